/-
  DEFLATE'S PLANS, WITHOUT ANY PROGRAM: tokens without some of their matches; which form of a block is taken; what is packed unpacks, and how long it is. No conditions.
  THE CONTRACTS OF deflate's SIZES, OF ITS STORED FORM, OF HOW MANY BITS A DYNAMIC BLOCK TAKES, AND OF THE PLAN OF ONE PART. No conditions (but that the tables lie as the program's text lays them).
  THE CONTRACT OF deflate's without, FOR EACH OF ITS TWO CLOSURES; of these; of math/bits.Len, for small numbers. No conditions. WRITTEN by wip/gen15c.py.
  THE CONTRACTS OF deflate's TWO CLOSURES, AND OF math/bits.Len FOR SMALL NUMBERS. No conditions.
  THE CONTRACTS OF deflate's PLAN OF ONE PART, AND OF THE SHORTEST PLAN FOR FEW TOKENS. No conditions (but that the tables lie as the program's text lays them). WRITTEN by wip/gen15e.py.
  THE CONTRACT OF deflate's paying: tokens with the matches that pay. No conditions (but that the tables lie as the program's text lays them).
-/
import Derived.Test.YtldgdofefcehnaaGreatDoorUng
import Derived.Test.YtldgdofefcehnaaGreatDoorLaw14
import Derived.Lib.MinMax
import Derived.IntWalk
import Derived.Test.YtldgdofefcehnaaGreatDoorMcj
import Derived.Deep.QuietTactic
import Derived.Deep.RegionHeld3
namespace Go.Proofs.YtldgdofefcehnaaGreatDoor
section
set_option maxRecDepth 100000
set_option linter.unusedVariables false
theorem cpL_ext (d : Nat) : ∀ (k : Nat) (o : List F), ∃ c, cpL d k o = o ++ c := by
 intro k
 induction k with
 | zero => intro o; exact ⟨[], by simp [cpL]⟩
 | succ k ih =>
  intro o
  obtain ⟨c, hc⟩ := ih (o ++ [gt o (o.length - d)])
  exact ⟨[gt o (o.length - d)] ++ c, by unfold cpL; rw [hc, List.append_assoc]⟩
theorem tkF_ext {M : Nat} {t : Tok} {o o2 : List F} (h : tkF M t o = .ok o2) : ∃ c, o2 = o ++ c := by
 unfold tkF at h
 split at h
 ·split at h
  ·injection h with h; exact ⟨_, h.symm⟩
  ·cases h
 ·split at h
  ·split at h
   ·cases h
   ·rw [agL_eq] at h
    split at h
    ·injection h with h
     obtain ⟨c, hc⟩ := cpL_ext t.dist.toNat t.len.toNat o
     exact ⟨c, by rw [← h, hc]⟩
    ·cases h
  ·cases h
theorem exF_ext {M : Nat} : ∀ {T : List Tok} {o o2 : List F}, exF M T o = .ok o2 → ∃ c, o2 = o ++ c := by
 intro T
 induction T with
 | nil => intro o o2 h; injection h with h; exact ⟨[], by rw [List.append_nil]; exact h.symm⟩
 | cons t r ih =>
  intro o o2 h
  change bndL (tkF M t o) (exF M r) = _ at h
  cases h1 : tkF M t o with
  | error e => rw [h1] at h; cases h
  | ok o3 =>
   rw [h1] at h
   obtain ⟨c, rfl⟩ := ih h
   obtain ⟨d, rfl⟩ := tkF_ext h1
   exact ⟨d ++ c, by rw [List.append_assoc]⟩
theorem bysF_ge {T : List Tok} (h : ∀ t ∈ T, TokOk t) : T.length ≤ bysF T := by
 induction T with
 | nil => exact Nat.zero_le _
 | cons t r ih =>
  have h1 := ih fun x hx => h x (by simp [hx])
  have h2 : 1 ≤ szF t := by
   have := h t (by simp)
   unfold szF
   split
   ·omega
   ·rcases this with h3 | h3
    ·omega
    ·unfold IsM at h3; omega
  show r.length + 1 ≤ szF t + bysF r
  omega
def woF (p : Tok → Bool) : List Tok → List F → List Tok
 | [], _ => []
 | t :: r, b => (if t.len = 0 ∨ p t = false then [t] else litT (b.take (szF t))) ++ woF p r (b.drop (szF t))
theorem wo_ok {M : Nat} (p : Tok → Bool) : ∀ (T : List Tok) (o b : List F), exF M T o = .ok (o ++ b) → exF M (woF p T b) o = .ok (o ++ b) := by
 intro T
 induction T with
 | nil => intro o b h; exact h
 | cons t r ih =>
  intro o b h
  change bndL (tkF M t o) (exF M r) = _ at h
  cases h1 : tkF M t o with
  | error e => rw [h1] at h; cases h
  | ok o3 =>
   rw [h1, bndL_ok] at h
   obtain ⟨ht, hl, hM⟩ := tkF_ok h1
   obtain ⟨d, rfl⟩ := tkF_ext h1
   obtain ⟨c, hc⟩ := exF_ext h
   rw [List.append_assoc] at hc
   have hb := List.append_cancel_left hc
   subst hb
   have hd : d.length = szF t := by rw [List.length_append] at hl; omega
   have e1 : (d ++ c).take (szF t) = d := by rw [← hd, List.take_left']; rfl
   have e2 : (d ++ c).drop (szF t) = c := by rw [← hd, List.drop_left']; rfl
   rw [← List.append_assoc] at h
   have h2 := ih (o ++ d) c h
   unfold woF
   rw [e1, e2, exF_append]
   have h3 : exF M (if t.len = 0 ∨ p t = false then [t] else litT d) o = .ok (o ++ d) := by
    split
    ·show bndL (tkF M t o) (exF M []) = _
     rw [h1, bndL_ok]
     rfl
    ·exact exF_lit d o (by rw [List.length_append] at hM; exact hM)
   rw [h3, bndL_ok, h2, List.append_assoc]
structure Good (T : List Tok) (l : List F) : Prop where
 ex : exF l.length T [] = .ok l
 lit : ∀ t ∈ T, t.len = 0 → t.dist = 0
theorem Good.ok {T : List Tok} {l : List F} (h : Good T l) : ∀ t ∈ T, TokOk t := (exF_len h.ex).2
theorem Good.bys {T : List Tok} {l : List F} (h : Good T l) : bysF T = l.length := by
 have := (exF_len h.ex).1
 rw [List.length_nil, Nat.zero_add] at this
 exact this.symm
theorem Good.le {T : List Tok} {l : List F} (h : Good T l) : T.length ≤ l.length := by
 have := bysF_ge h.ok
 rw [h.bys] at this
 exact this
theorem Good.okF {T : List Tok} {l : List F} (h : Good T l) : Go.Proofs.YtldgdofefcehnaaGreatDoor.okF T = T.length := by
 refine okF_is (fun i hi => ?_) (.inl rfl)
 have e : tg T i = T[i] := by unfold tg; rw [List.getD_eq_getElem?_getD, List.getElem?_eq_getElem hi]; rfl
 rw [e]
 exact h.ok _ (List.getElem_mem hi)
theorem i64_okD {a : Int} (h : -9223372036854775808 ≤ a ∧ a ≤ 9223372036854775807) : (Lit.int .i64 a).wf = true := by
 simp [Lit.wf, IntKind.min, IntKind.max, IntKind.bits, IntKind.signed]
 omega
theorem tok_wfD {t : Tok} (h : TokOk t) (h0 : t.len = 0 → t.dist = 0) : TokWf t := by
 rcases h with h | ⟨h1, h2, h3, h4⟩
 ·exact ⟨by rw [h]; decide, by rw [h0 h]; decide⟩
 ·exact ⟨i64_okD (by omega), i64_okD (by omega)⟩
theorem Good.wf {T : List Tok} {l : List F} (h : Good T l) : ∀ i, i < T.length → TokWf (tg T i) := by
 intro i hi
 have hm : tg T i ∈ T := by simp [tg, hi]
 exact tok_wfD (h.ok _ hm) (h.lit _ hm)
theorem wo_lit (p : Tok → Bool) : ∀ (T : List Tok) (b : List F), (∀ t ∈ T, t.len = 0 → t.dist = 0) → ∀ t ∈ woF p T b, t.len = 0 → t.dist = 0 := by
 intro T
 induction T with
 | nil => intro b _ t h; cases h
 | cons t r ih =>
  intro b h x hx
  unfold woF at hx
  rcases List.mem_append.1 hx with h1 | h1
  ·split at h1
   ·rw [List.mem_singleton.1 h1]; exact h t (by simp)
   ·unfold litT at h1
    obtain ⟨y, -, rfl⟩ := List.mem_map.1 h1
    exact fun _ => rfl
  ·exact ih _ (fun y hy => h y (by simp [hy])) x h1
theorem Good.wo {T : List Tok} {l : List F} (h : Good T l) (p : Tok → Bool) : Good (woF p T l) l :=
 ⟨by have := wo_ok p T [] l (by simpa using h.ex); simpa using this, wo_lit p T l h.lit⟩
def DynN (T : List Tok) (s : Nat) : Prop := ∃ Y, DynY T false Y ∧ s = Y.length
theorem DynN.unique {T : List Tok} {s s' : Nat} (h : DynN T s) (h' : DynN T s') : s = s' := by
 obtain ⟨Y, h1, rfl⟩ := h
 obtain ⟨Y', h2, rfl⟩ := h'
 exact h1.len h2
def stbN (n a : Nat) : Nat := (a % 8 + 10) / 8 * 8 - a % 8 + 8 * (4 + n)
def kindF (s d f : Nat) : Nat × Nat := if f < (if d < s then d else s) then (1, f) else if d < s then (2, d) else (0, s)
def AsOne (T : List Tok) (l : List F) (a k s : Nat) : Prop := ∃ d, DynN T d ∧ (k, s) = kindF (stbN l.length a) d (fixB T false).length
theorem AsOne.unique {T : List Tok} {l : List F} {a k s k' s' : Nat} (h : AsOne T l a k s) (h' : AsOne T l a k' s') : k = k' ∧ s = s' := by
 obtain ⟨d, h1, h2⟩ := h
 obtain ⟨d', g1, g2⟩ := h'
 obtain rfl := h1.unique g1
 have e := h2.trans g2.symm
 simp only [Prod.mk.injEq] at e
 exact e
theorem AsOne.le {T : List Tok} {l : List F} {a k s : Nat} (h : AsOne T l a k s) : s ≤ stbN l.length a ∧ s ≤ (fixB T false).length := by
 obtain ⟨d, h1, h2⟩ := h
 unfold kindF at h2
 generalize stbN l.length a = x at *
 generalize (fixB T false).length = y at *
 repeat' split at h2
 all_goals
  simp only [Prod.mk.injEq] at h2
  omega
def lbF (n : Nat) : Nat := if n = 0 then 0 else Nat.log2 n + 1
def paysF (a n : Nat) (t : Tok) : Bool := decide (t.len * (a : Int) ≤ (8 + (lbF t.dist.toNat : Int)) * (n : Int))
def PayR (T : List Tok) (l : List F) (X : List Tok) : Prop :=
 if T.length = l.length then X = T
 else ∃ ka a ks s kt t, AsOne (woF (fun _ => true) T l) l 0 ka a ∧ AsOne (woF (paysF a l.length) T l) l 0 ks s ∧ AsOne T l 0 kt t ∧
  X = if a < (if s < t then s else t) then woF (fun _ => true) T l else if s < t then woF (paysF a l.length) T l else T
theorem PayR.unique {T : List Tok} {l : List F} {X X' : List Tok} (h : PayR T l X) (h' : PayR T l X') : X = X' := by
 unfold PayR at h h'
 split at h
 ·rw [if_pos (by assumption)] at h'
  rw [h, h']
 ·rw [if_neg (by assumption)] at h'
  obtain ⟨ka, a, ks, s, kt, t, h1, h2, h3, h4⟩ := h
  obtain ⟨ka', a', ks', s', kt', t', g1, g2, g3, g4⟩ := h'
  obtain ⟨-, rfl⟩ := h1.unique g1
  obtain ⟨-, rfl⟩ := h2.unique g2
  obtain ⟨-, rfl⟩ := h3.unique g3
  rw [h4, g4]
theorem PayR.good {T : List Tok} {l : List F} {X : List Tok} (h : PayR T l X) (hT : Good T l) : Good X l := by
 unfold PayR at h
 split at h
 ·rw [h]; exact hT
 ·obtain ⟨ka, a, ks, s, kt, t, -, -, -, h4⟩ := h
  rw [h4]
  generalize (if s < t then s else t) = u
  split
  ·exact hT.wo _
  ·split
   ·exact hT.wo _
   ·exact hT
def KindY (X : List Tok) (l : List F) (k : Nat) (Y : List Bool) : Prop :=
 (k = 0 ∧ Y = stoB [] l true) ∨ (k = 1 ∧ Y = fixB X true) ∨ (k = 2 ∧ DynY X true Y)
theorem KindY.unique {X : List Tok} {l : List F} {k : Nat} {Y Y' : List Bool} (h : KindY X l k Y) (h' : KindY X l k Y') : Y = Y' := by
 rcases h with ⟨e, h⟩ | ⟨e, h⟩ | ⟨e, h⟩ <;> rcases h' with ⟨e', h'⟩ | ⟨e', h'⟩ | ⟨e', h'⟩ <;> first | omega | (rw [h, h']) | exact h.unique h'
theorem fixB_last (T : List Tok) : (fixB T true).length = (fixB T false).length := by rw [fixB_length, fixB_length]
theorem AsOne.bits {X : List Tok} {l : List F} {k s : Nat} {Y : List Bool} (h : AsOne X l 0 k s) (hY : KindY X l k Y) : Y.length = s := by
 obtain ⟨d, ⟨Z, h1, rfl⟩, h2⟩ := h
 unfold kindF at h2
 have e0 : (stoB [] l true).length = stbN l.length 0 := by rw [stoB_len]; unfold stbN; simp; omega
 have e1 := fixB_last X
 rcases hY with ⟨rfl, rfl⟩ | ⟨rfl, rfl⟩ | ⟨rfl, hD⟩
 ·rw [e0]
  repeat' split at h2
  all_goals simp only [Prod.mk.injEq] at h2
  all_goals omega
 ·rw [e1]
  repeat' split at h2
  all_goals simp only [Prod.mk.injEq] at h2
  all_goals omega
 ·have e2 := hD.len h1
  rw [e2]
  repeat' split at h2
  all_goals simp only [Prod.mk.injEq] at h2
  all_goals omega
theorem AsOne.kind {X : List Tok} {l : List F} {a k s : Nat} (h : AsOne X l a k s) : k = 0 ∨ k = 1 ∨ k = 2 := by
 obtain ⟨d, -, h2⟩ := h
 unfold kindF at h2
 repeat' split at h2
 all_goals simp only [Prod.mk.injEq] at h2
 all_goals omega
def PackR (T : List Tok) (l : List F) (Y : List Bool) : Prop := ∃ X k s, PayR T l X ∧ AsOne X l 0 k s ∧ KindY X l k Y
theorem PackR.unique {T : List Tok} {l : List F} {Y Y' : List Bool} (h : PackR T l Y) (h' : PackR T l Y') : Y = Y' := by
 obtain ⟨X, k, s, h1, h2, h3⟩ := h
 obtain ⟨X', k', s', g1, g2, g3⟩ := h'
 obtain rfl := h1.unique g1
 obtain ⟨rfl, -⟩ := h2.unique g2
 exact h3.unique g3
def stsN (n : Nat) : Nat := n + max ((n + 65534) / 65535) 1 * 5
theorem sts_small {n : Nat} (h : n ≤ 65535) : stsN n = n + 5 := by unfold stsN; omega
theorem PackR.len {T : List Tok} {l : List F} {Y : List Bool} (h : PackR T l Y) : Y.length ≤ 8 * (l.length + 5) ∧ (∀ X, PayR T l X → Y.length ≤ (fixB X false).length) := by
 obtain ⟨X, k, s, h1, h2, h3⟩ := h
 have e := h2.bits h3
 have h4 := h2.le
 refine ⟨?_, fun X' h5 => ?_⟩
 ·have : stbN l.length 0 = 8 * (l.length + 5) := by unfold stbN; omega
  omega
 ·obtain rfl := h1.unique h5
  omega
end
section
open Go.RowKit
set_option maxRecDepth 1000000
set_option linter.unusedVariables false
def stsF (n : Int) : Int := min (max n 0) 1099511627776 + max ((min (max n 0) 1099511627776 + 65534) / 65535) 1 * 5
theorem sts_nat {n : Nat} (h : n ≤ 1099511627776) : stsF (n : Int) = (stsN n : Nat) := by unfold stsF stsN; omega
theorem StoredSize_c (n : Int) (w : World) : Calls Tryz.prog 19 #[.int .i64 n] w fun e w' => e = .returned (.int .i64 (stsF n)) ∧ w = w' := by
 obtain ⟨x0, hx0⟩ : ∃ x0, max n 0 = x0 := ⟨_, rfl⟩
 obtain ⟨x, hx⟩ : ∃ x : Nat, min x0 1099511627776 = (x : Int) := ⟨(min x0 1099511627776).toNat, by omega⟩
 have hx1 : x ≤ 1099511627776 := by omega
 obtain ⟨u, hu⟩ : ∃ u, u = x + 65534 := ⟨_, rfl⟩
 obtain ⟨b, hb⟩ : ∃ b, b = u / 65535 := ⟨_, rfl⟩
 obtain ⟨q, hq⟩ : ∃ q, q = max b 1 := ⟨_, rfl⟩
 have hE : Hid (stsF n = (x : Int) + (q : Int) * 5) := by unfold Hid stsF; rw [hx0, hx]; omega
 have hu1 : (x : Int) + 65535 - 1 = (u : Int) := by omega
 have hu2 : IntKind.i64.wrap ((x : Int) + 65535 - 1) = (u : Int) := (IntWalk.i64_in _ (by omega)).trans hu1
 have hb1 : (u : Int) / 65535 = (b : Int) := by omega
 have hb2 : (u : Int).tdiv 65535 = (b : Int) := by rw [Int.tdiv_eq_ediv_of_nonneg (by omega)]; exact hb1
 have hq1 : max (b : Int) 1 = (q : Int) := by omega
 have hql : q ≤ 17000000 := by omega
 rw [hE.out]
 clear hu hb hq hE
 go_enter Tryz.func19, Tryz.ntmps19
 go_wp2
 go_ret
 exact ⟨rfl, rfl⟩
theorem stb_nat (n a : Nat) (hn : n ≤ 65535) : stbF (n : Int) ((a % 8 : Nat) : Int) = (stbN n a : Nat) := by unfold stbF stbN; omega
theorem storedBits_c (n a : Nat) (hn : n ≤ 65535) (ha : a ≤ 9223372036854775807) (w : World) : Calls Tryz.prog 126 #[.int .i64 (n : Int), .int .i64 (a : Int)] w fun e w' => e = .returned (.int .i64 (stbN n a : Nat)) ∧ w = w' := by
 have hm1 : (a : Int) % 8 = ((a % 8 : Nat) : Int) := by omega
 have hm2 : (a : Int).tmod 8 = ((a % 8 : Nat) : Int) := by rw [Int.tmod_eq_emod_of_nonneg (by omega)]; exact hm1
 have HC := Lib.hid (StoredBits_c (n : Int) ((a % 8 : Nat) : Int) w)
 have HS := Lib.hid (stb_nat n a hn)
 have hn1 : ¬ (65535 : Int) < (n : Int) := by omega
 generalize a % 8 = y at *
 generalize stbN n a = z at *
 go_enter Tryz.func126, Tryz.ntmps126
 go_wp2_with fail
 refine HC.out.mono ?_
 rintro e _ ⟨rfl, rfl⟩
 rw [HS.out]
 go_wp2
 go_ret
 exact ⟨rfl, rfl⟩
theorem putStored_c {w0 w : World} {p : Nat} {A : Option Addr} {len cap n : Nat} {X : List Bool} (h : Wr w p A len cap n X) (B : Option Addr) (m cb : Nat) (l : List F) (hl : RowIn w0 B m cb l) (hb : Below w0.heap.size w0 w) (hp : w0.heap.size ≤ p) (hm : m ≤ 65535) (last : Bool) (hroom : n + 8 * m + 200 ≤ 1000000) :
  Calls Tryz.prog 50 #[.pointer (some ⟨p, 0, none⟩), .slice B m cb, .bool last] w fun e w' => e = .returned (.tuple #[]) ∧ ∃ A' len' cap' n', Wr w' p A' len' cap' n' (stoB X l last) ∧ WOut p (Value.slice A len cap).ownBlock (Value.slice A' len' cap').ownBlock w w' := by
 have HC := Lib.hid (Stored_c h B m cb l hl hb hp hm last hroom)
 have hm1 : ¬ (65535 : Int) < (m : Int) := by omega
 clear h hl hb hroom
 go_enter Tryz.func50, Tryz.ntmps50
 go_wp2
 go_loopw [1] (fun vb wr => vb = .slice B m cb ∧ w = wr) (fun _ _ => 0)
 case atStart => exact ⟨rfl, rfl⟩
 case round =>
  obtain ⟨rfl, rfl⟩ := hrel
  go_wp2_with fail
  refine HC.out.mono ?_
  rintro e w1 ⟨rfl, h1⟩
  have H1 := Lib.hid h1
  clear h1
  go_wp2
  go_end0
  exact ⟨rfl, H1.out⟩
theorem DStored_c (w : World) (B : Option Addr) (m cb : Nat) (l : List F) (hl : RowIn w B m cb l) (hm : m ≤ 65535) :
  Calls Tryz.prog 17 #[.slice B m cb] w fun e w' => ∃ A' len' c', e = .returned (.slice A' len' c') ∧ len' = (pack (stoB [] l true)).length ∧ w'.ownsRow w.heap.size 5 1 (.slice A' len' c') len' (cs (pack (stoB [] l true))) ∧ Below w.heap.size w w' := by
 have HW0 := Lib.hid (Wr.fresh w #[.slice none 0 0, .int .i64 0] rfl)
 have HB0 : Hid (Below w.heap.size w (w.alloc (.cells #[.slice none 0 0, .int .i64 0] 45))) := (Below.refl _ _).alloc (Nat.le_refl _) _
 have HP := Lib.hid (putStored_c HW0.out B m cb l hl HB0.out (Nat.le_refl _) hm true (by omega))
 clear hl
 go_enter Tryz.func17, Tryz.ntmps17
 go_wp2_with fail
 refine HP.out.mono ?_
 rintro e w1 ⟨rfl, A1, len1, cap1, m1, hW, hO⟩
 have HB1 := Lib.hid (HW0.out.keeps hO HB0.out (Nat.le_refl _))
 have HW := Lib.hid hW
 clear hW hO HP HW0 HB0
 go_wp2_with fail
 refine (DoneB_c HW.out).mono ?_
 rintro e w2 ⟨A2, c2, rfl, hown, hb⟩
 have HO := Lib.hid (own_base hown HB1.out.size)
 have HL := Lib.hid (own_len hown)
 have HB2 := Lib.hid (HB1.out.trans (hb.mono HB1.out.size))
 clear hown hb
 go_wp2
 go_ret
 exact ⟨A2, len1, c2, rfl, HL.out.symm, HO.out, HB2.out⟩
theorem dynB_yD {w0 w : World} {p : Nat} {A : Option Addr} {len cap m : Nat} {X : List Bool} (h : Wr w p A len cap m X) (hb : Below w0.heap.size w0 w) (hp : w0.heap.size ≤ p) (htb : Tabs w0)
  (C : Option Addr) (N c : Nat) (T : List Tok) (hT : TRow w0 C N T) (hN : N ≤ 1000) (hok : okF T = N) (last : Bool) (hroom : m + 128 * N + 40000 ≤ 1000000) :
  Calls Tryz.prog 26 #[.pointer (some ⟨p, 0, none⟩), .slice C N c, .bool last] w fun e w' => e = .returned (.int .i64 0) ∧ ∃ A' len' cap' m' Y, DynY T last Y ∧ Wr w' p A' len' cap' m' (X ++ Y) ∧ WOut p (Value.slice A len cap).ownBlock (Value.slice A' len' cap').ownBlock w w' :=
 (DynamicB_c h hb hp htb C N c T hT hN hok last hroom).mono fun e w' ⟨he, A', len', cap', m', LL, LD, R, LA, h1, h2, h3, h4, hW, hO⟩ => ⟨he, A', len', cap', m', _, ⟨LL, LD, LA, R, h1, h2, h3, h4, rfl⟩, hW, hO⟩
theorem dynamicBits_c (w : World) (htb : Tabs w) (C : Option Addr) (N c : Nat) (T : List Tok) (hT : TRow w C N T) (hN : N ≤ 1000) (hok : okF T = N) :
  Calls Tryz.prog 127 #[.slice C N c] w fun e w' => ∃ s : Nat, e = .returned (.int .i64 s) ∧ Hid (DynN T s) ∧ s ≤ 1000100 ∧ Below w.heap.size w w' := by
 have HW0 := Lib.hid (Wr.fresh w #[.slice none 0 0, .int .i64 0] rfl)
 have HB0 : Hid (Below w.heap.size w (w.alloc (.cells #[.slice none 0 0, .int .i64 0] 45))) := (Below.refl _ _).alloc (Nat.le_refl _) _
 have HF := Lib.hid (dynB_yD HW0.out HB0.out (Nat.le_refl _) htb C N c T hT hN hok false (by omega))
 clear htb hT hok
 go_enter Tryz.func127, Tryz.ntmps127
 go_wp2_with fail
 refine HF.out.mono ?_
 rintro e w1 ⟨rfl, A1, len1, cap1, m1, Y, hY, hW, hO⟩
 have HB1 := Lib.hid (HW0.out.keeps hO HB0.out (Nat.le_refl _))
 rw [List.nil_append] at hW
 have HD : Hid (DynN T m1) := ⟨Y, hY, hW.hn.out⟩
 have hl : m1 ≤ 1000100 := by have := hW.few; have h1 := hW.hn.out; have h2 := hW.hl.out; omega
 have HW := Lib.hid hW
 clear hW hO hY HF HW0 HB0
 go_wp2_with fail
 refine (LenB_c HW.out).mono ?_
 rintro e _ ⟨rfl, rfl⟩
 go_wp2
 go_ret
 exact ⟨m1, rfl, HD.out, hl, HB1.out⟩
theorem isSmall_c (w : World) (C : Option Addr) (N c : Nat) : Calls Tryz.prog 84 #[.slice C N c] w fun e w' => e = .returned (.bool (decide (N < 4096))) ∧ w = w' := by
 have e : decide ((N : Int) < 4096) = decide (N < 4096) := by congr 1; simp only [eq_iff_iff]; omega
 go_enter Tryz.func84, Tryz.ntmps84
 by_cases h : N < 4096
 ·have h1 : (N : Int) < 4096 := by omega
  rw [decide_eq_true h]
  go_wp2
  go_ret
  first | exact ⟨rfl, rfl⟩ | exact ⟨trivial, rfl⟩
 ·have h1 : ¬ (N : Int) < 4096 := by omega
  rw [decide_eq_false h]
  go_wp2
  go_ret
  first | exact ⟨rfl, rfl⟩ | exact ⟨trivial, rfl⟩
end
section
open Go.RowKit
set_option maxRecDepth 1000000
set_option linter.unusedVariables false
theorem lbF_eight {n : Nat} (h : 256 ≤ n) (h2 : n < 65536) : lbF n = 8 + lbF (n / 256) := by
 have e : Nat.log2 n = 8 + Nat.log2 (n / 256) := by
  rw [show n / 256 = n / 2 ^ 8 from rfl]
  have h0 : n ≠ 0 := by omega
  have h3 : n / 2 ^ 8 ≠ 0 := by show n / 256 ≠ 0; omega
  have a1 := Nat.log2_self_le h3
  have a2 := Nat.lt_log2_self (n := n / 2 ^ 8)
  refine (Nat.log2_eq_iff h0).2 ⟨?_, ?_⟩
  ·rw [Nat.pow_add]
   have := Nat.mul_le_mul_left (2 ^ 8) a1
   have h4 : 2 ^ 8 * (n / 2 ^ 8) ≤ n := Nat.mul_div_le n _
   omega
  ·rw [show 8 + Nat.log2 (n / 2 ^ 8) + 1 = 8 + (Nat.log2 (n / 2 ^ 8) + 1) by omega, Nat.pow_add]
   have h4 : n < 2 ^ 8 * (n / 2 ^ 8 + 1) := by have := Nat.lt_mul_div_succ n (show 0 < 2 ^ 8 by decide); exact this
   have h5 := Nat.mul_le_mul_left (2 ^ 8) a2
   omega
 unfold lbF
 rw [if_neg (by omega), if_neg (by omega), e]
 omega
structure WoE (w : World) (A' : Option Addr) (n' c' : Nat) (O : List Tok) (wr : World) : Prop where
 bel : Below w.heap.size w wr
 own : wr.ownsRow w.heap.size 53 3 (.slice A' n' c') n' (tC O)
theorem WoE.go {w wr wr' : World} {A' : Option Addr} {n' c' : Nat} {O : List Tok} (h : WoE w A' n' c' O wr) (hb : Below wr.heap.size wr wr') : WoE w A' n' c' O wr' := ⟨h.bel.trans (hb.mono h.bel.size), own_bel h.own hb⟩
theorem WoE.grown {w wr wr' : World} {A' A4 : Option Addr} {n' c' n4 c4 : Nat} {O O4 : List Tok} (h : WoE w A' n' c' O wr) (ho : wr'.ownsRow w.heap.size 53 3 (.slice A4 n4 c4) n4 (tC O4)) (hg : wr.grownBy wr' (Value.slice A' n' c').ownBlock) : WoE w A4 n4 c4 O4 wr' :=
 ⟨h.bel.grown hg h.bel.size (fun g hg => (h.own.lt g hg).1), ho⟩
theorem bysF_take_le (T : List Tok) (k : Nat) : bysF (T.take k) ≤ bysF T := by
 have := bysF_append (T.take k) (T.drop k)
 rw [List.take_append_drop] at this
 omega
theorem sz_max {t : Tok} (h : TokOk t) : max t.len 1 = (szF t : Int) ∧ 1 ≤ szF t := by
 unfold szF
 rcases h with h | h
 ·rw [if_pos h, h]; exact ⟨rfl, Nat.le_refl _⟩
 ·unfold IsM at h; rw [if_neg (by omega)]; omega
theorem wo_snoc (p : Tok → Bool) (t : Tok) : ∀ (T : List Tok) (b : List F), woF p (T ++ [t]) b = woF p T b ++ (if t.len = 0 ∨ p t = false then [t] else litT ((b.drop (bysF T)).take (szF t))) := by
 intro T
 induction T with
 | nil => intro b; show (if t.len = 0 ∨ p t = false then [t] else litT (b.take (szF t))) ++ [] = _; rw [List.append_nil]; rfl
 | cons x r ih =>
  intro b
  show _ ++ woF p (r ++ [t]) (b.drop (szF x)) = (_ ++ woF p r (b.drop (szF x))) ++ _
  rw [ih, List.append_assoc, List.drop_drop]
  rfl
theorem wo_few (p : Tok → Bool) (T : List Tok) (l : List F) (hok : ∀ t ∈ T, TokOk t) {n : Nat} (hl : l.length = n) (hb : bysF T = n) (k : Nat) : (woF p (T.take k) l).length ≤ n := by
 have h : ∀ (T : List Tok) (l : List F), (∀ t ∈ T, TokOk t) → (woF p T l).length ≤ bysF T := by
  intro T
  induction T with
  | nil => intro l _; exact Nat.le_refl _
  | cons t r ih =>
   intro l h
   have h1 := ih (l.drop (szF t)) fun x hx => h x (by simp [hx])
   have h2 := (sz_max (h t (by simp))).2
   show (_ ++ _ : List Tok).length ≤ szF t + bysF r
   rw [List.length_append]
   have h3 : (if t.len = 0 ∨ p t = false then [t] else litT (l.take (szF t))).length ≤ szF t := by
    split
    ·exact h2
    ·rw [litT_length, List.length_take]; omega
   omega
 have h1 := h (T.take k) l fun t ht => hok t (List.mem_of_mem_take ht)
 have h2 := bysF_take_le T k
 omega
theorem RowIn.rest {w : World} {A : Option Addr} {len cap a : Nat} {l : List F} (h : RowIn w A len cap l) (h1 : a ≤ len) :
  (cap = a → RowIn w A (len - a) 0 (l.drop a)) ∧ (¬ cap = a → RowIn w (A.map fun x => x.add a) (len - a) (cap - a) (l.drop a)) := by
 have hs := h.slice h1 (Nat.le_refl _)
 rwa [List.take_of_length_le (by rw [List.length_drop, h.row.len]; omega)] at hs
theorem RowIn.take_ {w : World} {A : Option Addr} {len cap a : Nat} {l : List F} (h : RowIn w A len cap l) (h1 : a ≤ len) : Row w A a (l.take a) := h.row.take h1
set_option maxHeartbeats 8000000 in
theorem without1_c (w : World) (C : Option Addr) (N c : Nat) (T : List Tok) (hT : TRow w C N T) (hN : N ≤ 1000) (hok : ∀ t ∈ T, TokOk t) (B : Option Addr) (m cb : Nat) (l : List F) (hl : RowIn w B m cb l) (hby : bysF T = m) (hm : m ≤ 1000) (p : Tok → Bool)
  (hcall : ∀ W t, Below w.heap.size w W → TokOk t → t.len ≠ 0 → Calls Tryz.prog 132 #[tkV t] W fun e w' => e = .returned (.bool (p t)) ∧ Below W.heap.size W w') :
  Calls Tryz.prog 131 #[.slice C N c, .slice B m cb, .func (.func 132) #[] #[]] w fun e w' => ∃ A' n' c', e = .returned (.slice A' n' c') ∧ n' = (woF p T l).length ∧ w'.ownsRow w.heap.size 53 3 (.slice A' n' c') n' (tC (woF p T l)) ∧ Below w.heap.size w w' := by
 obtain ⟨i3, hi3, hy0, hy1, hy2⟩ := info_parts info_tk3
 have HT := Lib.hid hT
 have HLT := Lib.hid hT.len
 have HL := Lib.hid hl
 have HBY := Lib.hid hby
 have HOK := Lib.hid hok
 have HCALL := Lib.hid hcall
 have HS0 : Hid (WoE w none 0 0 (woF p (T.take 0) l) w) := ⟨Below.refl _ _, World.ownsRow_nil _ _ _ _⟩
 clear hT hl hby hok hcall
 go_enter Tryz.func131, Tryz.ntmps131
 go_wp2
 go_loopw [1, 7, 15] (fun vb va vi wr => ∃ (k n' : Nat) (A' : Option Addr) (c' : Nat) (B' : Option Addr) (m' cb' : Nat), k ≤ N ∧ vi = .int .i64 k ∧ vb = .slice B' m' cb' ∧ va = .slice A' n' c' ∧ m' ≤ 1000 ∧ Hid (m' + bysF (T.take k) = m) ∧ Hid (RowIn w B' m' cb' (l.drop (bysF (T.take k)))) ∧ Hid (WoE w A' n' c' (woF p (T.take k) l) wr)) (fun _ _ vi _ => N - (intOf vi).toNat)
 case atStart => exact ⟨0, 0, none, 0, B, m, cb, Nat.zero_le _, rfl, rfl, rfl, hm, rfl, HL.out, HS0.out⟩
 case round =>
  clear HS0
  obtain ⟨k, n', A', c', B', m', cb', hk, rfl, rfl, rfl, hm', hbm, hB, hS⟩ := hrel
  by_cases hlt : k < N
  ·have hkn : (k : Int) < (N : Int) := by omega
   obtain ⟨b, off, rfl, hbl, q0, q1, q2⟩ := (HT.out.below hS.out.bel).at_ hlt
   have hmem : tg T k ∈ T := by have : k < T.length := by rw [HLT.out]; exact hlt
                                simp [tg, this]
   have htok := HOK.out _ hmem
   have hwf := HT.out.wf k hlt
   have hkT : k < T.length := by rw [HLT.out]; exact hlt
   have hby1 := bysF_take hkT
   have hby2 := bysF_take_le T (k + 1)
   rw [HBY.out] at hby2
   have hsm := hbm.out
   have hn1000 := wo_few p T l HOK.out HL.out.row.len (by rw [HBY.out]) k
   rw [own_len3 hS.out.own] at hn1000
   obtain ⟨s, hs⟩ : ∃ s, s = bysF (T.take k) := ⟨_, rfl⟩
   rw [← hs] at hsm hby1 hB
   obtain ⟨sz, hsz⟩ : ∃ sz, sz = szF (tg T k) := ⟨_, rfl⟩
   obtain ⟨hmx, hsz1⟩ := sz_max htok
   rw [← hsz] at hby1 hmx hsz1
   have hszm : sz ≤ m' := by omega
   have hst : Hid (woF p (T.take (k + 1)) l = woF p (T.take k) l ++ (if (tg T k).len = 0 ∨ p (tg T k) = false then [tg T k] else litT ((l.drop s).take sz))) := by
    unfold Hid; rw [take_tg hkT, wo_snoc, ← hs, ← hsz]
   have hbm2 : Hid (m' - sz + bysF (T.take (k + 1)) = m) := by unfold Hid; omega
   have hbd : l.drop (bysF (T.take (k + 1))) = (l.drop s).drop sz := by rw [hby1, List.drop_drop]
   have HBD := Lib.hid hbd
   have HSL := Lib.hid (hB.out.rest hszm)
   have HX := Lib.hid ((hB.out.take_ hszm))
   have hT1 := tok1_row wr (tg T k) hwf _ rfl
   obtain ⟨t, ht⟩ : ∃ t, t = tg T k := ⟨_, rfl⟩
   rw [← ht] at q0 q1 q2 htok hwf hst hmx hT1
   have HTK := Lib.hid htok
   have HWF := Lib.hid hwf
   have hba := (Below.refl wr.heap.size wr).alloc (Nat.le_refl _) (.cells #[.int .u8 t.lit.n, .int .i64 t.len, .int .i64 t.dist] 53)
   have HS1 := Lib.hid (hS.out.go hba)
   have hk9 := Blk.new wr 53 #[.int .u8 t.lit.n, .int .i64 t.len, .int .i64 t.dist]
   have hszi : (sz : Int) ≤ (m' : Int) := by omega
   have hcbm : m' ≤ cb' := hB.out.le
   have hcbi : (sz : Int) ≤ (cb' : Int) := by omega
   have hcbx := hB.out.max
   clear hbl hby1 hby2 hbd hmem hsm hkT htok hwf hT1 hsz hs
   generalize hW1 : wr.alloc (.cells #[.int .u8 t.lit.n, .int .i64 t.len, .int .i64 t.dist] 53) = W1 at *
   obtain ⟨⟨e0, e1, e2⟩, -⟩ := hk9.trip
   obtain ⟨x, y, d⟩ := t
   dsimp only at *
   have hg9 := hk9.lt
   generalize hg : wr.heap.size = g9 at *
   by_cases h0 : y = 0
   ·have z1 : (y == 0) = true := by rw [h0]; rfl
    rw [if_pos (.inl h0)] at hst
    clear h0
    have T2 := Lib.hid (tok1_row W1 ⟨x, y, d⟩ HWF.out _ rfl)
    have B2 := Lib.hid (HS1.out.go ((Below.refl W1.heap.size W1).alloc (Nat.le_refl _) (.cells #[.int .u8 x.n, .int .i64 y, .int .i64 d] 53)))
    by_cases hcs : cb' = sz
    ·have HR := Lib.hid (HSL.out.1 hcs)
     clear HSL HX
     go_wp2_with (at_builtin; refine wpList_append_toks i3 hi3 hy0 hy1 hy2 rfl _ _ rfl w.heap.size (.slice A' n' c') n' _ rfl B2.out.own (some ⟨W1.heap.size, 0, none⟩) 1 1 [⟨x, y, d⟩] rfl T2.out (by omega) B2.out.bel.size ?_; intro v4 w4 hL4; obtain ⟨A4, c4, rfl, hown4, hg4, hnw4⟩ := hL4)
     have S4 := Lib.hid (B2.out.grown hown4 hg4)
     rw [← hst.out] at S4
     clear hown4 hg4 hnw4
     go_roundw
     case rel => exact ⟨k + 1, n' + 1, A4, c4, _, m' - sz, 0, by omega, by go_num, by rfl, rfl, by omega, hbm2.out, by unfold Hid; rw [HBD.out]; exact HR.out, S4.out⟩
     case measure => simp [intOf]; omega
    ·have HR := Lib.hid (HSL.out.2 hcs)
     clear HSL HX
     go_wp2_with (at_builtin; refine wpList_append_toks i3 hi3 hy0 hy1 hy2 rfl _ _ rfl w.heap.size (.slice A' n' c') n' _ rfl B2.out.own (some ⟨W1.heap.size, 0, none⟩) 1 1 [⟨x, y, d⟩] rfl T2.out (by omega) B2.out.bel.size ?_; intro v4 w4 hL4; obtain ⟨A4, c4, rfl, hown4, hg4, hnw4⟩ := hL4)
     have S4 := Lib.hid (B2.out.grown hown4 hg4)
     rw [← hst.out] at S4
     clear hown4 hg4 hnw4
     go_roundw
     case rel => exact ⟨k + 1, n' + 1, A4, c4, _, m' - sz, cb' - sz, by omega, by go_num, by rfl, rfl, by omega, hbm2.out, by unfold Hid; rw [HBD.out]; exact HR.out, S4.out⟩
     case measure => simp [intOf]; omega
   ·have z1 : (y == 0) = false := by rw [beq_eq_false_iff_ne]; exact h0
    have HC2 := Lib.hid (HCALL.out W1 ⟨x, y, d⟩ HS1.out.bel HTK.out h0)
    unfold tkV at HC2
    dsimp only at HC2
    by_cases hp : p ⟨x, y, d⟩ = false
    ·rw [if_pos (.inr hp)] at hst
     rw [hp] at HC2
     clear h0 hp
     by_cases hcs : cb' = sz
     ·have HR := Lib.hid (HSL.out.1 hcs)
      clear HSL HX
      go_wp2_with (first | (go_at_call 132; refine HC2.out.mono ?_; rintro e w2 ⟨rfl, hb2⟩; have hk9b := hk9.below hg9 hb2; obtain ⟨⟨f0, f1, f2⟩, -⟩ := hk9b.trip; have HS2 := Lib.hid (HS1.out.go hb2); clear hb2; have T2 := Lib.hid (tok1_row w2 ⟨x, y, d⟩ HWF.out _ rfl); have B2 := Lib.hid (HS2.out.go ((Below.refl w2.heap.size w2).alloc (Nat.le_refl _) (.cells #[.int .u8 x.n, .int .i64 y, .int .i64 d] 53)))) | (at_builtin; refine wpList_append_toks i3 hi3 hy0 hy1 hy2 rfl _ _ rfl w.heap.size (.slice A' n' c') n' _ rfl B2.out.own (some ⟨w2.heap.size, 0, none⟩) 1 1 [⟨x, y, d⟩] rfl T2.out (by omega) B2.out.bel.size ?_; intro v4 w4 hL4; obtain ⟨A4, c4, rfl, hown4, hg4, hnw4⟩ := hL4))
      have S4 := Lib.hid (B2.out.grown hown4 hg4)
      rw [← hst.out] at S4
      clear hown4 hg4 hnw4
      go_roundw
      case rel => exact ⟨k + 1, n' + 1, A4, c4, _, m' - sz, 0, by omega, by go_num, by rfl, rfl, by omega, hbm2.out, by unfold Hid; rw [HBD.out]; exact HR.out, S4.out⟩
      case measure => simp [intOf]; omega
     ·have HR := Lib.hid (HSL.out.2 hcs)
      clear HSL HX
      go_wp2_with (first | (go_at_call 132; refine HC2.out.mono ?_; rintro e w2 ⟨rfl, hb2⟩; have hk9b := hk9.below hg9 hb2; obtain ⟨⟨f0, f1, f2⟩, -⟩ := hk9b.trip; have HS2 := Lib.hid (HS1.out.go hb2); clear hb2; have T2 := Lib.hid (tok1_row w2 ⟨x, y, d⟩ HWF.out _ rfl); have B2 := Lib.hid (HS2.out.go ((Below.refl w2.heap.size w2).alloc (Nat.le_refl _) (.cells #[.int .u8 x.n, .int .i64 y, .int .i64 d] 53)))) | (at_builtin; refine wpList_append_toks i3 hi3 hy0 hy1 hy2 rfl _ _ rfl w.heap.size (.slice A' n' c') n' _ rfl B2.out.own (some ⟨w2.heap.size, 0, none⟩) 1 1 [⟨x, y, d⟩] rfl T2.out (by omega) B2.out.bel.size ?_; intro v4 w4 hL4; obtain ⟨A4, c4, rfl, hown4, hg4, hnw4⟩ := hL4))
      have S4 := Lib.hid (B2.out.grown hown4 hg4)
      rw [← hst.out] at S4
      clear hown4 hg4 hnw4
      go_roundw
      case rel => exact ⟨k + 1, n' + 1, A4, c4, _, m' - sz, cb' - sz, by omega, by go_num, by rfl, rfl, by omega, hbm2.out, by unfold Hid; rw [HBD.out]; exact HR.out, S4.out⟩
      case measure => simp [intOf]; omega
    ·rw [if_neg (fun e => e.elim h0 hp)] at hst
     have hpt : p ⟨x, y, d⟩ = true := by simpa using hp
     rw [hpt] at HC2
     clear h0 hp hpt
     go_wp2_with (go_at_call 132; refine HC2.out.mono ?_; rintro e w2 ⟨rfl, hb2⟩; have HS2 := Lib.hid (HS1.out.go hb2); clear hb2)
     have HSW : Hid (WoE w A' n' c' (woF p (T.take k) l ++ litT (((l.drop s).take sz).take 0)) w2) := by unfold Hid; rw [List.take_zero]; simp only [litT, List.map_nil, List.append_nil]; exact HS2.out
     clear HS2
     go_loopw [7, 39] (fun va vj wr => ∃ (j : Nat) (A2 : Option Addr) (c2 : Nat), j ≤ sz ∧ vj = .int .i64 j ∧ va = .slice A2 (n' + j) c2 ∧ Hid (WoE w A2 (n' + j) c2 (woF p (T.take k) l ++ litT (((l.drop s).take sz).take j)) wr)) (fun _ vj _ => sz - (intOf vj).toNat)
     case atStart => exact ⟨0, A', c', Nat.zero_le _, rfl, rfl, HSW.out⟩
     case round =>
      clear HSW
      obtain ⟨j, A2, c2, hj, rfl, rfl, hS2⟩ := hrel
      by_cases hjl : j < sz
      ·have hji : (j : Int) < (sz : Int) := by omega
       obtain ⟨b5, o5, rfl, hb5, hc5⟩ := (HX.out.below hS2.out.bel).at_ hjl
       have htk2 : Hid (((l.drop s).take sz).take (j + 1) = ((l.drop s).take sz).take j ++ [gt ((l.drop s).take sz) j]) := by
        unfold Hid
        rw [List.take_succ_eq_append_getElem (by rw [HX.out.len]; exact hjl), gt_lt (by rw [HX.out.len]; exact hjl)]
       generalize gt ((l.drop s).take sz) j = v at *
       have T2 := Lib.hid (tok1_row wr ⟨v, 0, 0⟩ ⟨rfl, rfl⟩ _ rfl)
       have B2 := Lib.hid (hS2.out.go ((Below.refl wr.heap.size wr).alloc (Nat.le_refl _) (.cells #[.int .u8 v.n, .int .i64 0, .int .i64 0] 53)))
       go_wp2_with (at_builtin; refine wpList_append_toks i3 hi3 hy0 hy1 hy2 rfl _ _ rfl w.heap.size (.slice A2 (n' + j) c2) (n' + j) _ rfl B2.out.own (some ⟨wr.heap.size, 0, none⟩) 1 1 [⟨v, 0, 0⟩] rfl T2.out (by omega) B2.out.bel.size ?_; intro v4 w4 hL4; obtain ⟨A4, c4, rfl, hown4, hg4, hnw4⟩ := hL4)
       have S4 := Lib.hid (B2.out.grown hown4 hg4)
       rw [List.append_assoc, ← litT_snoc, ← htk2.out] at S4
       clear hown4 hg4 hnw4
       go_roundw
       case rel => exact ⟨j + 1, A4, c4, by omega, by go_num, rfl, S4.out⟩
       case measure => simp [intOf]; omega
      ·have hji : ¬ (j : Int) < (sz : Int) := by omega
       obtain rfl : j = sz := by omega
       have hS3 := hS2
       rw [show ((l.drop s).take j).take j = (l.drop s).take j from List.take_of_length_le (by rw [HX.out.len]; exact Nat.le_refl _), ← hst.out] at hS3
       clear hS2
       by_cases hcs : cb' = j
       ·have HR := Lib.hid (HSL.out.1 hcs)
        clear HSL HX
        go_wp2
        go_roundw
        case rel => exact ⟨k + 1, n' + j, A2, c2, _, m' - j, 0, by omega, by go_num, by rfl, rfl, by omega, hbm2.out, by unfold Hid; rw [HBD.out]; exact HR.out, hS3.out⟩
        case measure => simp [intOf]; omega
       ·have HR := Lib.hid (HSL.out.2 hcs)
        clear HSL HX
        go_wp2
        go_roundw
        case rel => exact ⟨k + 1, n' + j, A2, c2, _, m' - j, cb' - j, by omega, by go_num, by rfl, rfl, by omega, hbm2.out, by unfold Hid; rw [HBD.out]; exact HR.out, hS3.out⟩
        case measure => simp [intOf]; omega
  ·have hkn : ¬ (k : Int) < (N : Int) := by omega
   obtain rfl : k = N := by omega
   have htk : T.take k = T := by rw [← HLT.out, List.take_length]
   have hS1 := hS.out
   rw [htk] at hS1
   have HS1 := Lib.hid hS1
   have HLN := Lib.hid (own_len3 hS1.own)
   clear hS hS1 htk
   go_wp2
   go_ret
   exact ⟨A', n', c', rfl, HLN.out.symm, HS1.out.own, HS1.out.bel⟩
set_option maxHeartbeats 8000000 in
theorem without2_c (w : World) (C : Option Addr) (N c : Nat) (T : List Tok) (hT : TRow w C N T) (hN : N ≤ 1000) (hok : ∀ t ∈ T, TokOk t) (B : Option Addr) (m cb : Nat) (l : List F) (hl : RowIn w B m cb l) (hby : bysF T = m) (hm : m ≤ 1000) (p : Tok → Bool) (q1 q2 : Nat)
  (hcall : ∀ W t, Below w.heap.size w W → TokOk t → t.len ≠ 0 → Calls Tryz.prog 133 #[tkV t, .pointer (some ⟨q1, 0, none⟩), .pointer (some ⟨q2, 0, none⟩)] W fun e w' => e = .returned (.bool (p t)) ∧ Below W.heap.size W w') :
  Calls Tryz.prog 131 #[.slice C N c, .slice B m cb, .func (.func 133) #[] #[.pointer (some ⟨q1, 0, none⟩), .pointer (some ⟨q2, 0, none⟩)]] w fun e w' => ∃ A' n' c', e = .returned (.slice A' n' c') ∧ n' = (woF p T l).length ∧ w'.ownsRow w.heap.size 53 3 (.slice A' n' c') n' (tC (woF p T l)) ∧ Below w.heap.size w w' := by
 obtain ⟨i3, hi3, hy0, hy1, hy2⟩ := info_parts info_tk3
 have HT := Lib.hid hT
 have HLT := Lib.hid hT.len
 have HL := Lib.hid hl
 have HBY := Lib.hid hby
 have HOK := Lib.hid hok
 have HCALL := Lib.hid hcall
 have HS0 : Hid (WoE w none 0 0 (woF p (T.take 0) l) w) := ⟨Below.refl _ _, World.ownsRow_nil _ _ _ _⟩
 clear hT hl hby hok hcall
 go_enter Tryz.func131, Tryz.ntmps131
 go_wp2
 go_loopw [1, 7, 15] (fun vb va vi wr => ∃ (k n' : Nat) (A' : Option Addr) (c' : Nat) (B' : Option Addr) (m' cb' : Nat), k ≤ N ∧ vi = .int .i64 k ∧ vb = .slice B' m' cb' ∧ va = .slice A' n' c' ∧ m' ≤ 1000 ∧ Hid (m' + bysF (T.take k) = m) ∧ Hid (RowIn w B' m' cb' (l.drop (bysF (T.take k)))) ∧ Hid (WoE w A' n' c' (woF p (T.take k) l) wr)) (fun _ _ vi _ => N - (intOf vi).toNat)
 case atStart => exact ⟨0, 0, none, 0, B, m, cb, Nat.zero_le _, rfl, rfl, rfl, hm, rfl, HL.out, HS0.out⟩
 case round =>
  clear HS0
  obtain ⟨k, n', A', c', B', m', cb', hk, rfl, rfl, rfl, hm', hbm, hB, hS⟩ := hrel
  by_cases hlt : k < N
  ·have hkn : (k : Int) < (N : Int) := by omega
   obtain ⟨b, off, rfl, hbl, q0, q1, q2⟩ := (HT.out.below hS.out.bel).at_ hlt
   have hmem : tg T k ∈ T := by have : k < T.length := by rw [HLT.out]; exact hlt
                                simp [tg, this]
   have htok := HOK.out _ hmem
   have hwf := HT.out.wf k hlt
   have hkT : k < T.length := by rw [HLT.out]; exact hlt
   have hby1 := bysF_take hkT
   have hby2 := bysF_take_le T (k + 1)
   rw [HBY.out] at hby2
   have hsm := hbm.out
   have hn1000 := wo_few p T l HOK.out HL.out.row.len (by rw [HBY.out]) k
   rw [own_len3 hS.out.own] at hn1000
   obtain ⟨s, hs⟩ : ∃ s, s = bysF (T.take k) := ⟨_, rfl⟩
   rw [← hs] at hsm hby1 hB
   obtain ⟨sz, hsz⟩ : ∃ sz, sz = szF (tg T k) := ⟨_, rfl⟩
   obtain ⟨hmx, hsz1⟩ := sz_max htok
   rw [← hsz] at hby1 hmx hsz1
   have hszm : sz ≤ m' := by omega
   have hst : Hid (woF p (T.take (k + 1)) l = woF p (T.take k) l ++ (if (tg T k).len = 0 ∨ p (tg T k) = false then [tg T k] else litT ((l.drop s).take sz))) := by
    unfold Hid; rw [take_tg hkT, wo_snoc, ← hs, ← hsz]
   have hbm2 : Hid (m' - sz + bysF (T.take (k + 1)) = m) := by unfold Hid; omega
   have hbd : l.drop (bysF (T.take (k + 1))) = (l.drop s).drop sz := by rw [hby1, List.drop_drop]
   have HBD := Lib.hid hbd
   have HSL := Lib.hid (hB.out.rest hszm)
   have HX := Lib.hid ((hB.out.take_ hszm))
   have hT1 := tok1_row wr (tg T k) hwf _ rfl
   obtain ⟨t, ht⟩ : ∃ t, t = tg T k := ⟨_, rfl⟩
   rw [← ht] at q0 q1 q2 htok hwf hst hmx hT1
   have HTK := Lib.hid htok
   have HWF := Lib.hid hwf
   have hba := (Below.refl wr.heap.size wr).alloc (Nat.le_refl _) (.cells #[.int .u8 t.lit.n, .int .i64 t.len, .int .i64 t.dist] 53)
   have HS1 := Lib.hid (hS.out.go hba)
   have hk9 := Blk.new wr 53 #[.int .u8 t.lit.n, .int .i64 t.len, .int .i64 t.dist]
   have hszi : (sz : Int) ≤ (m' : Int) := by omega
   have hcbm : m' ≤ cb' := hB.out.le
   have hcbi : (sz : Int) ≤ (cb' : Int) := by omega
   have hcbx := hB.out.max
   clear hbl hby1 hby2 hbd hmem hsm hkT htok hwf hT1 hsz hs
   generalize hW1 : wr.alloc (.cells #[.int .u8 t.lit.n, .int .i64 t.len, .int .i64 t.dist] 53) = W1 at *
   obtain ⟨⟨e0, e1, e2⟩, -⟩ := hk9.trip
   obtain ⟨x, y, d⟩ := t
   dsimp only at *
   have hg9 := hk9.lt
   generalize hg : wr.heap.size = g9 at *
   by_cases h0 : y = 0
   ·have z1 : (y == 0) = true := by rw [h0]; rfl
    rw [if_pos (.inl h0)] at hst
    clear h0
    have T2 := Lib.hid (tok1_row W1 ⟨x, y, d⟩ HWF.out _ rfl)
    have B2 := Lib.hid (HS1.out.go ((Below.refl W1.heap.size W1).alloc (Nat.le_refl _) (.cells #[.int .u8 x.n, .int .i64 y, .int .i64 d] 53)))
    by_cases hcs : cb' = sz
    ·have HR := Lib.hid (HSL.out.1 hcs)
     clear HSL HX
     go_wp2_with (at_builtin; refine wpList_append_toks i3 hi3 hy0 hy1 hy2 rfl _ _ rfl w.heap.size (.slice A' n' c') n' _ rfl B2.out.own (some ⟨W1.heap.size, 0, none⟩) 1 1 [⟨x, y, d⟩] rfl T2.out (by omega) B2.out.bel.size ?_; intro v4 w4 hL4; obtain ⟨A4, c4, rfl, hown4, hg4, hnw4⟩ := hL4)
     have S4 := Lib.hid (B2.out.grown hown4 hg4)
     rw [← hst.out] at S4
     clear hown4 hg4 hnw4
     go_roundw
     case rel => exact ⟨k + 1, n' + 1, A4, c4, _, m' - sz, 0, by omega, by go_num, by rfl, rfl, by omega, hbm2.out, by unfold Hid; rw [HBD.out]; exact HR.out, S4.out⟩
     case measure => simp [intOf]; omega
    ·have HR := Lib.hid (HSL.out.2 hcs)
     clear HSL HX
     go_wp2_with (at_builtin; refine wpList_append_toks i3 hi3 hy0 hy1 hy2 rfl _ _ rfl w.heap.size (.slice A' n' c') n' _ rfl B2.out.own (some ⟨W1.heap.size, 0, none⟩) 1 1 [⟨x, y, d⟩] rfl T2.out (by omega) B2.out.bel.size ?_; intro v4 w4 hL4; obtain ⟨A4, c4, rfl, hown4, hg4, hnw4⟩ := hL4)
     have S4 := Lib.hid (B2.out.grown hown4 hg4)
     rw [← hst.out] at S4
     clear hown4 hg4 hnw4
     go_roundw
     case rel => exact ⟨k + 1, n' + 1, A4, c4, _, m' - sz, cb' - sz, by omega, by go_num, by rfl, rfl, by omega, hbm2.out, by unfold Hid; rw [HBD.out]; exact HR.out, S4.out⟩
     case measure => simp [intOf]; omega
   ·have z1 : (y == 0) = false := by rw [beq_eq_false_iff_ne]; exact h0
    have HC2 := Lib.hid (HCALL.out W1 ⟨x, y, d⟩ HS1.out.bel HTK.out h0)
    unfold tkV at HC2
    dsimp only at HC2
    by_cases hp : p ⟨x, y, d⟩ = false
    ·rw [if_pos (.inr hp)] at hst
     rw [hp] at HC2
     clear h0 hp
     by_cases hcs : cb' = sz
     ·have HR := Lib.hid (HSL.out.1 hcs)
      clear HSL HX
      go_wp2_with (first | (go_at_call 133; refine HC2.out.mono ?_; rintro e w2 ⟨rfl, hb2⟩; have hk9b := hk9.below hg9 hb2; obtain ⟨⟨f0, f1, f2⟩, -⟩ := hk9b.trip; have HS2 := Lib.hid (HS1.out.go hb2); clear hb2; have T2 := Lib.hid (tok1_row w2 ⟨x, y, d⟩ HWF.out _ rfl); have B2 := Lib.hid (HS2.out.go ((Below.refl w2.heap.size w2).alloc (Nat.le_refl _) (.cells #[.int .u8 x.n, .int .i64 y, .int .i64 d] 53)))) | (at_builtin; refine wpList_append_toks i3 hi3 hy0 hy1 hy2 rfl _ _ rfl w.heap.size (.slice A' n' c') n' _ rfl B2.out.own (some ⟨w2.heap.size, 0, none⟩) 1 1 [⟨x, y, d⟩] rfl T2.out (by omega) B2.out.bel.size ?_; intro v4 w4 hL4; obtain ⟨A4, c4, rfl, hown4, hg4, hnw4⟩ := hL4))
      have S4 := Lib.hid (B2.out.grown hown4 hg4)
      rw [← hst.out] at S4
      clear hown4 hg4 hnw4
      go_roundw
      case rel => exact ⟨k + 1, n' + 1, A4, c4, _, m' - sz, 0, by omega, by go_num, by rfl, rfl, by omega, hbm2.out, by unfold Hid; rw [HBD.out]; exact HR.out, S4.out⟩
      case measure => simp [intOf]; omega
     ·have HR := Lib.hid (HSL.out.2 hcs)
      clear HSL HX
      go_wp2_with (first | (go_at_call 133; refine HC2.out.mono ?_; rintro e w2 ⟨rfl, hb2⟩; have hk9b := hk9.below hg9 hb2; obtain ⟨⟨f0, f1, f2⟩, -⟩ := hk9b.trip; have HS2 := Lib.hid (HS1.out.go hb2); clear hb2; have T2 := Lib.hid (tok1_row w2 ⟨x, y, d⟩ HWF.out _ rfl); have B2 := Lib.hid (HS2.out.go ((Below.refl w2.heap.size w2).alloc (Nat.le_refl _) (.cells #[.int .u8 x.n, .int .i64 y, .int .i64 d] 53)))) | (at_builtin; refine wpList_append_toks i3 hi3 hy0 hy1 hy2 rfl _ _ rfl w.heap.size (.slice A' n' c') n' _ rfl B2.out.own (some ⟨w2.heap.size, 0, none⟩) 1 1 [⟨x, y, d⟩] rfl T2.out (by omega) B2.out.bel.size ?_; intro v4 w4 hL4; obtain ⟨A4, c4, rfl, hown4, hg4, hnw4⟩ := hL4))
      have S4 := Lib.hid (B2.out.grown hown4 hg4)
      rw [← hst.out] at S4
      clear hown4 hg4 hnw4
      go_roundw
      case rel => exact ⟨k + 1, n' + 1, A4, c4, _, m' - sz, cb' - sz, by omega, by go_num, by rfl, rfl, by omega, hbm2.out, by unfold Hid; rw [HBD.out]; exact HR.out, S4.out⟩
      case measure => simp [intOf]; omega
    ·rw [if_neg (fun e => e.elim h0 hp)] at hst
     have hpt : p ⟨x, y, d⟩ = true := by simpa using hp
     rw [hpt] at HC2
     clear h0 hp hpt
     go_wp2_with (go_at_call 133; refine HC2.out.mono ?_; rintro e w2 ⟨rfl, hb2⟩; have HS2 := Lib.hid (HS1.out.go hb2); clear hb2)
     have HSW : Hid (WoE w A' n' c' (woF p (T.take k) l ++ litT (((l.drop s).take sz).take 0)) w2) := by unfold Hid; rw [List.take_zero]; simp only [litT, List.map_nil, List.append_nil]; exact HS2.out
     clear HS2
     go_loopw [7, 39] (fun va vj wr => ∃ (j : Nat) (A2 : Option Addr) (c2 : Nat), j ≤ sz ∧ vj = .int .i64 j ∧ va = .slice A2 (n' + j) c2 ∧ Hid (WoE w A2 (n' + j) c2 (woF p (T.take k) l ++ litT (((l.drop s).take sz).take j)) wr)) (fun _ vj _ => sz - (intOf vj).toNat)
     case atStart => exact ⟨0, A', c', Nat.zero_le _, rfl, rfl, HSW.out⟩
     case round =>
      clear HSW
      obtain ⟨j, A2, c2, hj, rfl, rfl, hS2⟩ := hrel
      by_cases hjl : j < sz
      ·have hji : (j : Int) < (sz : Int) := by omega
       obtain ⟨b5, o5, rfl, hb5, hc5⟩ := (HX.out.below hS2.out.bel).at_ hjl
       have htk2 : Hid (((l.drop s).take sz).take (j + 1) = ((l.drop s).take sz).take j ++ [gt ((l.drop s).take sz) j]) := by
        unfold Hid
        rw [List.take_succ_eq_append_getElem (by rw [HX.out.len]; exact hjl), gt_lt (by rw [HX.out.len]; exact hjl)]
       generalize gt ((l.drop s).take sz) j = v at *
       have T2 := Lib.hid (tok1_row wr ⟨v, 0, 0⟩ ⟨rfl, rfl⟩ _ rfl)
       have B2 := Lib.hid (hS2.out.go ((Below.refl wr.heap.size wr).alloc (Nat.le_refl _) (.cells #[.int .u8 v.n, .int .i64 0, .int .i64 0] 53)))
       go_wp2_with (at_builtin; refine wpList_append_toks i3 hi3 hy0 hy1 hy2 rfl _ _ rfl w.heap.size (.slice A2 (n' + j) c2) (n' + j) _ rfl B2.out.own (some ⟨wr.heap.size, 0, none⟩) 1 1 [⟨v, 0, 0⟩] rfl T2.out (by omega) B2.out.bel.size ?_; intro v4 w4 hL4; obtain ⟨A4, c4, rfl, hown4, hg4, hnw4⟩ := hL4)
       have S4 := Lib.hid (B2.out.grown hown4 hg4)
       rw [List.append_assoc, ← litT_snoc, ← htk2.out] at S4
       clear hown4 hg4 hnw4
       go_roundw
       case rel => exact ⟨j + 1, A4, c4, by omega, by go_num, rfl, S4.out⟩
       case measure => simp [intOf]; omega
      ·have hji : ¬ (j : Int) < (sz : Int) := by omega
       obtain rfl : j = sz := by omega
       have hS3 := hS2
       rw [show ((l.drop s).take j).take j = (l.drop s).take j from List.take_of_length_le (by rw [HX.out.len]; exact Nat.le_refl _), ← hst.out] at hS3
       clear hS2
       by_cases hcs : cb' = j
       ·have HR := Lib.hid (HSL.out.1 hcs)
        clear HSL HX
        go_wp2
        go_roundw
        case rel => exact ⟨k + 1, n' + j, A2, c2, _, m' - j, 0, by omega, by go_num, by rfl, rfl, by omega, hbm2.out, by unfold Hid; rw [HBD.out]; exact HR.out, hS3.out⟩
        case measure => simp [intOf]; omega
       ·have HR := Lib.hid (HSL.out.2 hcs)
        clear HSL HX
        go_wp2
        go_roundw
        case rel => exact ⟨k + 1, n' + j, A2, c2, _, m' - j, cb' - j, by omega, by go_num, by rfl, rfl, by omega, hbm2.out, by unfold Hid; rw [HBD.out]; exact HR.out, hS3.out⟩
        case measure => simp [intOf]; omega
  ·have hkn : ¬ (k : Int) < (N : Int) := by omega
   obtain rfl : k = N := by omega
   have htk : T.take k = T := by rw [← HLT.out, List.take_length]
   have hS1 := hS.out
   rw [htk] at hS1
   have HS1 := Lib.hid hS1
   have HLN := Lib.hid (own_len3 hS1.own)
   clear hS hS1 htk
   go_wp2
   go_ret
   exact ⟨A', n', c', rfl, HLN.out.symm, HS1.out.own, HS1.out.bel⟩
end
section
open Go.RowKit
set_option maxRecDepth 1000000
set_option linter.unusedVariables false
theorem payAll_c (t : Tok) (w : World) : Calls Tryz.prog 132 #[tkV t] w fun e w' => e = .returned (.bool true) ∧ Below w.heap.size w w' := by
 obtain ⟨x, y, d⟩ := t
 unfold tkV
 dsimp only
 go_enter Tryz.func132, Tryz.ntmps132
 go_wp2
 go_ret
 exact ⟨rfl, (Below.refl _ _).alloc (Nat.le_refl _) _⟩
theorem idx_of {B : ByteArray} (hB : ∀ i, i < 256 → (B.data.getD i 0).toNat = lbF i) (n : Nat) (h : n < B.size) (hn : n < 256) : (B[n]'h).toNat = lbF n := by
 rw [← hB n hn]
 have h2 : n < B.data.size := h
 rw [Array.getD_eq_getD_getElem?, Array.getElem?_eq_getElem h2]
 rfl
theorem lbF_le {n : Nat} (h : n ≤ 32768) : lbF n ≤ 16 := by
 unfold lbF
 split
 ·omega
 ·rename_i h0
  have := (Nat.log2_lt h0 (k := 16)).2 (by omega)
  omega
theorem Len64_c (n : Nat) (hn : n ≤ 32768) (w : World) : Calls Tryz.prog 166 #[.int .u64 n] w fun e w' => e = .returned (.int .i64 (lbF n : Nat)) ∧ w = w' := by
 have h1 : decide ((4294967296 : Int) ≤ (n : Int)) = false := decide_eq_false (by omega)
 have h2 : decide ((65536 : Int) ≤ (n : Int)) = false := decide_eq_false (by omega)
 by_cases h3 : 256 ≤ n
 ·have h3i : decide ((256 : Int) ≤ (n : Int)) = true := decide_eq_true (by omega)
  have hE := lbF_eight h3 (by omega)
  obtain ⟨q, hq⟩ : ∃ q, q = n / 256 := ⟨_, rfl⟩
  rw [← hq] at hE
  have HE := Lib.hid hE
  have hq1 : (n : Int) / 256 = (q : Int) := by omega
  have hqb : q < 256 := by omega
  have HQ := Lib.hid hqb
  clear hE hq hqb h3
  go_enter Tryz.func166, Tryz.ntmps166
  go_wp2
  go_ret
  refine ⟨?_, rfl⟩
  have e := fun B hB h => @idx_of B hB q h HQ.out
  rw [e]
  case hB => decide +kernel
  rw [HE.out]
  have hl := lbF_le (n := q) (by have := HQ.out; omega)
  generalize lbF q = z at *
  have e1 : wrap64 (z : Int) = (z : Int) := by unfold wrap64; omega
  have e2 : wrap64 (8 + (z : Int)) = ((8 + z : Nat) : Int) := by unfold wrap64; omega
  show Ending.returned (Value.int .i64 (wrap64 (8 + wrap64 (z : Int)))) = _
  rw [e1, e2]
 ·have h3i : decide ((256 : Int) ≤ (n : Int)) = false := decide_eq_false (by omega)
  have hn2 : n < 256 := by omega
  go_enter Tryz.func166, Tryz.ntmps166
  go_wp2
  go_ret
  refine ⟨?_, rfl⟩
  have e := fun B hB h => @idx_of B hB n h hn2
  rw [e]
  case hB => decide +kernel
  have hl := lbF_le hn
  generalize lbF n = z at *
  have e1 : wrap64 (z : Int) = (z : Int) := by unfold wrap64; omega
  show Ending.returned (Value.int .i64 (wrap64 (wrap64 (z : Int)))) = _
  rw [e1, e1]
theorem Len_c (n : Nat) (hn : n ≤ 32768) (w : World) : Calls Tryz.prog 134 #[.int .u64 n] w fun e w' => e = .returned (.int .i64 (lbF n : Nat)) ∧ w = w' := by
 have HC := Lib.hid (Len64_c n hn w)
 generalize lbF n = z at *
 go_enter Tryz.func134, Tryz.ntmps134
 go_wp2_with fail
 refine HC.out.mono ?_
 rintro e _ ⟨rfl, rfl⟩
 go_wp2
 go_ret
 exact ⟨rfl, rfl⟩
set_option maxHeartbeats 4000000 in
theorem pays_c (w : World) (t : Tok) (ht : TokOk t) (h0 : t.len ≠ 0) (q1 q2 : Nat) (a : Nat) (ha : a ≤ 1000100) (B : Option Addr) (m cb : Nat) (hm : m ≤ 1000) (k1 : Blk w q1 3 #[.int .i64 a]) (k2 : Blk w q2 22 #[.slice B m cb]) :
  Calls Tryz.prog 133 #[tkV t, .pointer (some ⟨q1, 0, none⟩), .pointer (some ⟨q2, 0, none⟩)] w fun e w' => e = .returned (.bool (paysF a m t)) ∧ Below w.heap.size w w' := by
 have hM : IsM t := ht.resolve_left h0
 obtain ⟨x, y, d⟩ := t
 unfold IsM at hM
 dsimp only at hM
 clear ht h0
 obtain ⟨L, rfl⟩ : ∃ L : Nat, y = (L : Int) := ⟨y.toNat, by omega⟩
 obtain ⟨D, rfl⟩ : ∃ D : Nat, d = (D : Int) := ⟨d.toNat, by omega⟩
 have hD : D ≤ 32768 := by omega
 have hL : L ≤ 258 := by omega
 have hlb := lbF_le hD
 have HC := Lib.hid (fun W => Len_c D hD W)
 obtain ⟨z, hz⟩ : ∃ z, z = lbF D := ⟨_, rfl⟩
 have hE : paysF a m ⟨x, (L : Int), (D : Int)⟩ = decide (L * a ≤ (8 + z) * m) := by
  unfold paysF
  dsimp only
  rw [Int.toNat_natCast, ← hz]
  congr 1
  rw [eq_iff_iff]
  constructor
  ·intro h; exact Int.ofNat_le.1 (by push_cast; exact h)
  ·intro h; have := Int.ofNat_le.2 h; push_cast at this; exact this
 rw [hE]
 rw [← hz] at HC hlb
 obtain ⟨P, hP⟩ : ∃ P, P = L * a := ⟨_, rfl⟩
 obtain ⟨u, hu⟩ : ∃ u, u = 8 + z := ⟨_, rfl⟩
 obtain ⟨Q, hQ⟩ : ∃ Q, Q = u * m := ⟨_, rfl⟩
 rw [← hP, ← hu, ← hQ]
 have hP1 : P ≤ 258 * 1000100 := by rw [hP]; exact Nat.mul_le_mul hL ha
 have hQ1 : Q ≤ 24 * 1000 := by rw [hQ]; exact Nat.mul_le_mul (by omega) hm
 have p1 : (L : Int) * (a : Int) = (P : Int) := by rw [hP]; push_cast; rfl
 have p2 : (8 : Int) + (z : Int) = (u : Int) := by omega
 have p3 : (u : Int) * (m : Int) = (Q : Int) := by rw [hQ]; push_cast; rfl
 have p1w : IntKind.i64.wrap ((L : Int) * (a : Int)) = (P : Int) := (IntWalk.i64_in _ (by omega)).trans p1
 have p2w : IntKind.i64.wrap ((8 : Int) + (z : Int)) = (u : Int) := (IntWalk.i64_in _ (by omega)).trans p2
 have p3w : IntKind.i64.wrap ((u : Int) * (m : Int)) = (Q : Int) := (IntWalk.i64_in _ (by omega)).trans p3
 have p4 : IntKind.u64.wrap (D : Int) = (D : Int) := by rw [IntKind.wrap_u64]; omega
 have hba := (Below.refl w.heap.size w).alloc (Nat.le_refl _) (.cells #[.int .u8 x.n, .int .i64 L, .int .i64 D] 53)
 have K1 := Lib.hid (k1.below k1.lt hba)
 have K2 := Lib.hid (k2.below k2.lt hba)
 have HB := Lib.hid hba
 have hk9 := Blk.new w 53 #[.int .u8 x.n, .int .i64 L, .int .i64 D]
 have HPW : Hid (IntKind.i64.wrap (P : Int) = (P : Int) ∧ IntKind.i64.wrap (u : Int) = (u : Int)) := ⟨IntWalk.i64_in _ (by omega), IntWalk.i64_in _ (by omega)⟩
 clear hP hu hQ hz hE k1 k2 hba hM
 unfold tkV
 dsimp only
 by_cases hle : P ≤ Q
 ·have hb : decide ((P : Int) ≤ (Q : Int)) = true := decide_eq_true (by omega)
  rw [decide_eq_true hle]
  clear hle
  go_enter Tryz.func133, Tryz.ntmps133
  go_wp2
  generalize w.alloc (.cells #[.int .u8 x.n, .int .i64 L, .int .i64 D] 53) = W at *
  obtain ⟨⟨e0, e1, e2⟩, -⟩ := hk9.trip
  have c1 := K1.out.cell 0
  have c2 := K2.out.cell 0
  simp only [List.getElem?_toArray, List.getElem?_cons_zero] at c1 c2
  go_region_held3 (fun w' => w'.cell? ⟨w.heap.size, 1, none⟩ = some (.int .i64 L) ∧ w'.cell? ⟨w.heap.size, 2, none⟩ = some (.int .i64 D) ∧ w'.cell? ⟨q1, 0, none⟩ = some (.int .i64 a) ∧ w'.cell? ⟨q2, 0, none⟩ = some (.slice B m cb)) (go_keep) ((go_at_call 134; refine (HC.out _).mono ?_; rintro e _ ⟨rfl, rfl⟩))
  go_wp2
  go_ret
  refine ⟨?_, below_drewN HB.out _⟩
  show Ending.returned (Value.bool (decide (IntKind.i64.wrap (P : Int) ≤ IntKind.i64.wrap (IntKind.i64.wrap (u : Int) * (m : Int))))) = _
  rw [HPW.out.1, HPW.out.2, p3w, hb]
 ·have hb : decide ((P : Int) ≤ (Q : Int)) = false := decide_eq_false (by omega)
  rw [decide_eq_false hle]
  clear hle
  go_enter Tryz.func133, Tryz.ntmps133
  go_wp2
  generalize w.alloc (.cells #[.int .u8 x.n, .int .i64 L, .int .i64 D] 53) = W at *
  obtain ⟨⟨e0, e1, e2⟩, -⟩ := hk9.trip
  have c1 := K1.out.cell 0
  have c2 := K2.out.cell 0
  simp only [List.getElem?_toArray, List.getElem?_cons_zero] at c1 c2
  go_region_held3 (fun w' => w'.cell? ⟨w.heap.size, 1, none⟩ = some (.int .i64 L) ∧ w'.cell? ⟨w.heap.size, 2, none⟩ = some (.int .i64 D) ∧ w'.cell? ⟨q1, 0, none⟩ = some (.int .i64 a) ∧ w'.cell? ⟨q2, 0, none⟩ = some (.slice B m cb)) (go_keep) ((go_at_call 134; refine (HC.out _).mono ?_; rintro e _ ⟨rfl, rfl⟩))
  go_wp2
  go_ret
  refine ⟨?_, below_drewN HB.out _⟩
  show Ending.returned (Value.bool (decide (IntKind.i64.wrap (P : Int) ≤ IntKind.i64.wrap (IntKind.i64.wrap (u : Int) * (m : Int))))) = _
  rw [HPW.out.1, HPW.out.2, p3w, hb]
end
section
open Go.RowKit
set_option maxRecDepth 1000000
set_option linter.unusedVariables false
structure PlS (w : World) (C : Option Addr) (N c : Nat) (B : Option Addr) (m cb : Nat) (g6 g7 gp k s : Nat) (W : World) : Prop where
 bel : Below w.heap.size w W
 r6 : Blk W g6 73 #[.slice none 0 0, .int .i64 0]
 r7 : Blk W g7 73 #[.slice (some ⟨gp, 0, none⟩) 1 1, .int .i64 s]
 pt : Blk W gp 77 #[.slice C N c, .slice B m cb, .int .i64 k]
 lo : w.heap.size ≤ g6 ∧ w.heap.size ≤ g7 ∧ w.heap.size ≤ gp
 ne : g6 ≠ g7 ∧ gp ≠ g6 ∧ gp ≠ g7
theorem PlS.go {w W W' : World} {C : Option Addr} {N c : Nat} {B : Option Addr} {m cb g6 g7 gp k s : Nat} (h : PlS w C N c B m cb g6 g7 gp k s W) (hb : Below W.heap.size W W') : PlS w C N c B m cb g6 g7 gp k s W' :=
 ⟨h.bel.trans (hb.mono h.bel.size), h.r6.below h.r6.lt hb, h.r7.below h.r7.lt hb, h.pt.below h.pt.lt hb, h.lo, h.ne⟩
theorem info_pl : (Tryz.prog.info? 73).map (·.size) = some 2 := by kernel_rfl
theorem ld_pl {w : World} {g : Nat} {C : Array Value} (h : Blk w g 73 C) (hC : C.size = 2) : Sem.run Tryz.prog (loadVar 73 ⟨g, 0, none⟩) w = .ok (.agg C) w :=
 run_loadVar_row w g _ _ _ (0, 0) _ h Tryz.underlying73 rfl (by rw [info_pl, hC])
theorem st_pl {w : World} {g : Nat} {C : Array Value} (h : Blk w g 73 C) (hC : C.size = 2) (D : Array Value) (hD : D.size = 2) (h1 : D.all (·.oneCell') = true) :
  Sem.run Tryz.prog (storeVar 73 ⟨g, 0, none⟩ (.agg D)) w = .ok () (w.setRow g D) :=
 run_storeVar_row w g _ _ _ _ h (by rw [info_pl, hD]) (by rw [hC, hD]) h1
theorem PlS.put {w W : World} {C : Option Addr} {N c : Nat} {B : Option Addr} {m cb g6 g7 gp k s k' s' gq : Nat} (h : PlS w C N c B m cb g6 g7 gp k s W) (hq : gq = W.heap.size) :
  PlS w C N c B m cb g6 g7 gq k' s' ((W.alloc (.cells #[.slice C N c, .slice B m cb, .int .i64 k'] 77)).setRow g7 #[.slice (some ⟨gq, 0, none⟩) 1 1, .int .i64 s']) := by
 subst hq
 have h6 := h.r6.lt
 have h7 := h.r7.lt
 have hba := (Below.refl W.heap.size W).alloc (Nat.le_refl _) (.cells #[.slice C N c, .slice B m cb, .int .i64 k'] 77)
 have kn := Blk.new W 77 #[.slice C N c, .slice B m cb, .int .i64 k']
 refine ⟨below_setRowT (h.bel.alloc h.bel.size _) h.lo.2.1 _, ?_, (h.r7.below h7 hba).setRow _, ?_, ⟨h.lo.1, h.lo.2.1, h.bel.size⟩, ⟨h.ne.1, by omega, by omega⟩⟩
 ·exact (blk_setRowT h.ne.1 _).trans (h.r6.below h6 hba)
 ·exact (blk_setRowT (show W.heap.size ≠ g7 by omega) _).trans kn
theorem PlS.fin {w W : World} {C : Option Addr} {N c : Nat} {B : Option Addr} {m cb g6 g7 gp k s : Nat} (h : PlS w C N c B m cb g6 g7 gp k s W) :
  Below w.heap.size w (W.setRow g6 #[.slice (some ⟨gp, 0, none⟩) 1 1, .int .i64 s]) ∧ Blk (W.setRow g6 #[.slice (some ⟨gp, 0, none⟩) 1 1, .int .i64 s]) gp 77 #[.slice C N c, .slice B m cb, .int .i64 k] ∧
  Blk (W.setRow g6 #[.slice (some ⟨gp, 0, none⟩) 1 1, .int .i64 s]) g6 73 #[.slice (some ⟨gp, 0, none⟩) 1 1, .int .i64 s] :=
 ⟨below_setRowT h.bel h.lo.1 _, (blk_setRowT h.ne.2.1 _).trans h.pt, h.r6.setRow _⟩
theorem PlS.ld {w W : World} {C : Option Addr} {N c : Nat} {B : Option Addr} {m cb g6 g7 gp k s : Nat} (h : PlS w C N c B m cb g6 g7 gp k s W) : Sem.run Tryz.prog (loadVar 73 ⟨g7, 0, none⟩) W = .ok (.agg #[.slice (some ⟨gp, 0, none⟩) 1 1, .int .i64 s]) W := ld_pl h.r7 rfl
theorem PlS.st6 {w W : World} {C : Option Addr} {N c : Nat} {B : Option Addr} {m cb g6 g7 gp k s : Nat} (h : PlS w C N c B m cb g6 g7 gp k s W) : Sem.run Tryz.prog (storeVar 73 ⟨g6, 0, none⟩ (.agg #[.slice (some ⟨gp, 0, none⟩) 1 1, .int .i64 s])) W = .ok () (W.setRow g6 #[.slice (some ⟨gp, 0, none⟩) 1 1, .int .i64 s]) :=
 st_pl h.r6 rfl _ rfl (by simp [Value.oneCell'])
theorem PlS.st7 {w W : World} {C : Option Addr} {N c : Nat} {B : Option Addr} {m cb g6 g7 gp k s : Nat} (h : PlS w C N c B m cb g6 g7 gp k s W) (k' s' gq : Nat) : Sem.run Tryz.prog (storeVar 73 ⟨g7, 0, none⟩ (.agg #[.slice (some ⟨gq, 0, none⟩) 1 1, .int .i64 s'])) (W.alloc (.cells #[.slice C N c, .slice B m cb, .int .i64 k'] 77)) = .ok () ((W.alloc (.cells #[.slice C N c, .slice B m cb, .int .i64 k'] 77)).setRow g7 #[.slice (some ⟨gq, 0, none⟩) 1 1, .int .i64 s']) :=
 st_pl (h.r7.below h.r7.lt ((Below.refl W.heap.size W).alloc (Nat.le_refl _) _)) rfl _ rfl (by simp [Value.oneCell'])
theorem PlS.fld {w W : World} {C : Option Addr} {N c : Nat} {B : Option Addr} {m cb g6 g7 gp k s : Nat} (h : PlS w C N c B m cb g6 g7 gp k s W) : W.cell? ⟨g7, 1, none⟩ = some (.int .i64 s) := h.r7.cell 1
theorem stbN_le (n a : Nat) (h : n ≤ 65535) : stbN n a ≤ 600000 := by unfold stbN; omega
set_option maxHeartbeats 8000000 in
theorem asOne_c (w : World) (htb : Tabs w) (C : Option Addr) (N c : Nat) (T : List Tok) (hT : TRow w C N T) (hN : N ≤ 1000) (hok : okF T = N) (B : Option Addr) (m cb : Nat) (l : List F) (hl : l.length = m) (hm : m ≤ 65535) (a : Nat) (ha : a ≤ 9223372036854775807) :
  Calls Tryz.prog 83 #[.slice C N c, .slice B m cb, .int .i64 (a : Int)] w fun e w' => ∃ g k s : Nat, e = .returned (.agg #[.slice (some ⟨g, 0, none⟩) 1 1, .int .i64 s]) ∧ AsOne T l a k s ∧ s ≤ 1000100 ∧ Blk w' g 77 #[.slice C N c, .slice B m cb, .int .i64 k] ∧ w.heap.size ≤ g ∧ Below w.heap.size w w' := by
 have HT := Lib.hid hT
 have HTB := Lib.hid htb
 have HOK := Lib.hid hok
 have HL := Lib.hid hl
 have HSB := Lib.hid (fun W => storedBits_c m a hm ha W)
 have hs0 := stbN_le m a hm
 have HSN : Hid (stbN l.length a = stbN m a) := by unfold Hid; rw [hl]
 generalize stbN m a = s0 at *
 have HSM := Lib.hid (fun W => isSmall_c W C N c)
 rw [decide_eq_true (show N < 4096 by omega)] at HSM
 clear hT htb hok hl
 go_enter Tryz.func83, Tryz.ntmps83
 go_wp2_with (go_at_call 126; refine (HSB.out _).mono ?_; rintro e _ ⟨rfl, rfl⟩)
 have hP0 : PlS w C N c B m cb w.heap.size (w.heap.size + 1 + 1) (w.heap.size + 1) 0 s0 (((w.alloc (.cells #[.slice none 0 0, .int .i64 0] 73)).alloc (.cells #[.slice C N c, .slice B m cb, .int .i64 0] 77)).alloc (.cells #[.slice (some ⟨w.heap.size + 1, 0, none⟩) 1 1, .int .i64 s0] 73)) := by
  have k0 := Blk.new w 73 #[.slice none 0 0, .int .i64 0]
  have k1 := Blk.new (w.alloc (.cells #[.slice none 0 0, .int .i64 0] 73)) 77 #[.slice C N c, .slice B m cb, .int .i64 0]
  have k2 := Blk.new ((w.alloc (.cells #[.slice none 0 0, .int .i64 0] 73)).alloc (.cells #[.slice C N c, .slice B m cb, .int .i64 0] 77)) 73 #[.slice (some ⟨w.heap.size + 1, 0, none⟩) 1 1, .int .i64 s0]
  have b1 := fun W o => (Below.refl (World.heap W).size W).alloc (Nat.le_refl _) o
  rw [World.size_alloc] at k1
  rw [World.size_alloc, World.size_alloc] at k2
  refine ⟨(((Below.refl w.heap.size w).alloc (Nat.le_refl _) _).alloc (by simp) _).alloc (by simp; omega) _, (k0.below k0.lt (b1 _ _)).below (by simp; omega) (b1 _ _), k2, k1.below k1.lt (b1 _ _), ⟨by omega, by omega, by omega⟩, ⟨by omega, by omega, by omega⟩⟩
 have HP0 := Lib.hid hP0
 clear hP0
 generalize hg7 : w.heap.size + 1 + 1 = g7 at *
 generalize hgp : w.heap.size + 1 = gp at *
 generalize hg6 : w.heap.size = g6 at *
 generalize hW0 : ((w.alloc (.cells #[.slice none 0 0, .int .i64 0] 73)).alloc (.cells #[.slice C N c, .slice B m cb, .int .i64 0] 77)).alloc (.cells #[.slice (some ⟨gp, 0, none⟩) 1 1, .int .i64 s0] 73) = W0 at *
 refine (dynamicBits_c W0 (HTB.out.below (by rw [← hg6] at *; exact HP0.out.bel)) C N c T (HT.out.below HP0.out.bel) hN HOK.out).mono ?_
 rintro e w1 ⟨d, rfl, hD, hd, hb1⟩
 have HD := Lib.hid hD
 have HP1 := Lib.hid (HP0.out.go hb1)
 clear hD hb1 HP0 hW0 hg7 hgp hg6
 have c71 := HP1.out.fld
 by_cases h1 : d < s0
 ·have h1i : (d : Int) < (s0 : Int) := by omega
  have HP2 := Lib.hid (HP1.out.put (k' := 2) (s' := d) rfl)
  go_wp2_with (first | (with_reducible refine wpList_store_var _ _ _ (by with_unfolding_all rfl) (by with_unfolding_all rfl) (HP1.out.st7 2 d w1.heap.size) ?_) | (go_at_call 84; refine (HSM.out _).mono ?_; rintro e _ ⟨rfl, rfl⟩))
  generalize hgq : w1.heap.size = gq at *
  generalize hW2 : (w1.alloc (.cells #[.slice C N c, .slice B m cb, .int .i64 (2 : Nat)] 77)).setRow g7 #[.slice (some ⟨gq, 0, none⟩) 1 1, .int .i64 d] = W2 at *
  clear hW2 hgq HP1
  refine (FixedBits_c W2 (HTB.out.below HP2.out.bel) C N c T (HT.out.below HP2.out.bel) hN HOK.out).mono ?_
  rintro e w3 ⟨rfl, hb3⟩
  have HP3 := Lib.hid (HP2.out.go hb3)
  obtain ⟨f, hf⟩ : ∃ f, f = (fixB T false).length := ⟨_, rfl⟩
  rw [← hf]
  have HF := Lib.hid hf
  clear hb3 HP2 hf
  have c71 := HP3.out.fld
  by_cases h2 : f < d
  ·have h2i : (f : Int) < (d : Int) := by omega
   have HAS : Hid (AsOne T l a 1 f) := ⟨d, HD.out, by rw [HSN.out, ← HF.out]; unfold kindF; rw [if_pos h1, if_pos h2]⟩
   have HP4 := Lib.hid (HP3.out.put (k' := 1) (s' := f) rfl)
   go_wp2_with (first | (with_reducible refine wpList_store_var _ _ _ (by with_unfolding_all rfl) (by with_unfolding_all rfl) (HP3.out.st7 1 f w3.heap.size) ?_) | (with_reducible refine wpList_ldT HP4.out.ld (by with_unfolding_all rfl) ?_) | (with_reducible refine wpList_store_var _ _ _ (by with_unfolding_all rfl) (by with_unfolding_all rfl) HP4.out.st6 ?_))
   obtain ⟨hF1, hF2, hF3⟩ := HP4.out.fin
   have z0 := ld_pl hF3 rfl
   refine bodyPost_ret (v := .agg #[.slice (some ⟨w3.heap.size, 0, none⟩) 1 1, .int .i64 f]) ?_ rfl ⟨w3.heap.size, 1, f, rfl, HAS.out, by omega, hF2, HP4.out.lo.2.2, hF1⟩
   rw [results_cell_one rfl]
   simp [asAddr, Result.andThen, Act.put]
   exact z0
  ·have h2i : ¬ (f : Int) < (d : Int) := by omega
   have HAS : Hid (AsOne T l a 2 d) := ⟨d, HD.out, by rw [HSN.out, ← HF.out]; unfold kindF; rw [if_pos h1, if_neg h2, if_pos h1]⟩
   go_wp2_with (first | (with_reducible refine wpList_ldT HP3.out.ld (by with_unfolding_all rfl) ?_) | (with_reducible refine wpList_store_var _ _ _ (by with_unfolding_all rfl) (by with_unfolding_all rfl) HP3.out.st6 ?_))
   obtain ⟨hF1, hF2, hF3⟩ := HP3.out.fin
   have z0 := ld_pl hF3 rfl
   refine bodyPost_ret (v := .agg #[.slice (some ⟨gq, 0, none⟩) 1 1, .int .i64 d]) ?_ rfl ⟨gq, 2, d, rfl, HAS.out, by omega, hF2, HP3.out.lo.2.2, hF1⟩
   rw [results_cell_one rfl]
   simp [asAddr, Result.andThen, Act.put, z0]
 ·have h1i : ¬ (d : Int) < (s0 : Int) := by omega
  go_wp2_with (go_at_call 84; refine (HSM.out _).mono ?_; rintro e _ ⟨rfl, rfl⟩)
  generalize w1 = W2 at *
  refine (FixedBits_c W2 (HTB.out.below HP1.out.bel) C N c T (HT.out.below HP1.out.bel) hN HOK.out).mono ?_
  rintro e w3 ⟨rfl, hb3⟩
  have HP3 := Lib.hid (HP1.out.go hb3)
  obtain ⟨f, hf⟩ : ∃ f, f = (fixB T false).length := ⟨_, rfl⟩
  rw [← hf]
  have HF := Lib.hid hf
  clear hb3 HP1 hf
  have c71 := HP3.out.fld
  by_cases h2 : f < s0
  ·have h2i : (f : Int) < (s0 : Int) := by omega
   have HAS : Hid (AsOne T l a 1 f) := ⟨d, HD.out, by rw [HSN.out, ← HF.out]; unfold kindF; rw [if_neg h1, if_pos h2]⟩
   have HP4 := Lib.hid (HP3.out.put (k' := 1) (s' := f) rfl)
   go_wp2_with (first | (with_reducible refine wpList_store_var _ _ _ (by with_unfolding_all rfl) (by with_unfolding_all rfl) (HP3.out.st7 1 f w3.heap.size) ?_) | (with_reducible refine wpList_ldT HP4.out.ld (by with_unfolding_all rfl) ?_) | (with_reducible refine wpList_store_var _ _ _ (by with_unfolding_all rfl) (by with_unfolding_all rfl) HP4.out.st6 ?_))
   obtain ⟨hF1, hF2, hF3⟩ := HP4.out.fin
   have z0 := ld_pl hF3 rfl
   refine bodyPost_ret (v := .agg #[.slice (some ⟨w3.heap.size, 0, none⟩) 1 1, .int .i64 f]) ?_ rfl ⟨w3.heap.size, 1, f, rfl, HAS.out, by omega, hF2, HP4.out.lo.2.2, hF1⟩
   rw [results_cell_one rfl]
   simp [asAddr, Result.andThen, Act.put]
   exact z0
  ·have h2i : ¬ (f : Int) < (s0 : Int) := by omega
   have HAS : Hid (AsOne T l a 0 s0) := ⟨d, HD.out, by rw [HSN.out, ← HF.out]; unfold kindF; rw [if_neg h1, if_neg h2, if_neg h1]⟩
   go_wp2_with (first | (with_reducible refine wpList_ldT HP3.out.ld (by with_unfolding_all rfl) ?_) | (with_reducible refine wpList_store_var _ _ _ (by with_unfolding_all rfl) (by with_unfolding_all rfl) HP3.out.st6 ?_))
   obtain ⟨hF1, hF2, hF3⟩ := HP3.out.fin
   have z0 := ld_pl hF3 rfl
   refine bodyPost_ret (v := .agg #[.slice (some ⟨gp, 0, none⟩) 1 1, .int .i64 s0]) ?_ rfl ⟨gp, 0, s0, rfl, HAS.out, by omega, hF2, HP3.out.lo.2.2, hF1⟩
   rw [results_cell_one rfl]
   simp [asAddr, Result.andThen, Act.put, z0]
set_option maxHeartbeats 4000000 in
theorem shortest_c (w : World) (htb : Tabs w) (C : Option Addr) (N c : Nat) (T : List Tok) (hT : TRow w C N T) (hN : N ≤ 1000) (hok : okF T = N) (B : Option Addr) (m cb : Nat) (l : List F) (hl : l.length = m) (hm : m ≤ 65535) (a : Nat) (ha : a ≤ 9223372036854775807) :
  Calls Tryz.prog 38 #[.slice C N c, .slice B m cb, .int .i64 (a : Int)] w fun e w' => ∃ g k s : Nat, e = .returned (.agg #[.slice (some ⟨g, 0, none⟩) 1 1, .int .i64 s]) ∧ AsOne T l a k s ∧ s ≤ 1000100 ∧ Blk w' g 77 #[.slice C N c, .slice B m cb, .int .i64 k] ∧ w.heap.size ≤ g ∧ Below w.heap.size w w' := by
 have hba := (Below.refl w.heap.size w).alloc (Nat.le_refl _) (.cells #[.slice none 0 0, .int .i64 0] 73)
 have HA := Lib.hid (asOne_c _ (htb.below hba) C N c T (hT.below hba) hN hok B m cb l hl hm a ha)
 have HSM := Lib.hid (fun W => isSmall_c W C N c)
 rw [decide_eq_true (show N < 4096 by omega)] at HSM
 have HB := Lib.hid hba
 have k6 := Lib.hid (Blk.new w 73 #[.slice none 0 0, .int .i64 0])
 clear hT htb hok hl hba
 go_enter Tryz.func38, Tryz.ntmps38
 go_wp2_with fail
 generalize w.alloc (.cells #[.slice none 0 0, .int .i64 0] 73) = W0 at *
 refine HA.out.mono ?_
 rintro e w1 ⟨g, k, s, rfl, hA, hs, hg, hg0, hb⟩
 have hba2 := (Below.refl w1.heap.size w1).alloc (Nat.le_refl _) (.cells #[.slice (some ⟨g, 0, none⟩) 1 1, .int .i64 s] 73)
 have hlt6 : w.heap.size < W0.heap.size := k6.out.lt
 have hsz := hb.size
 have k6b := Lib.hid ((k6.out.below k6.out.lt hb).below (by omega) hba2)
 have K7 := Lib.hid (Blk.new w1 73 #[.slice (some ⟨g, 0, none⟩) 1 1, .int .i64 s])
 have KG := Lib.hid (hg.below hg.lt hba2)
 have HB2 := Lib.hid ((HB.out.trans (hb.mono HB.out.size)).trans (hba2.mono (by have := HB.out.size; omega)))
 have HAS := Lib.hid hA
 have hgl := hg.lt
 have HG : Hid (g ≠ w.heap.size ∧ w.heap.size ≤ g) := ⟨by omega, by omega⟩
 clear hA hg hb hba2 k6 HA
 have t7 := ld_pl K7.out rfl
 have t6 := st_pl k6b.out rfl #[.slice (some ⟨g, 0, none⟩) 1 1, .int .i64 s] rfl (by simp [Value.oneCell'])
 go_wp2_with (first | (go_at_call 84; refine (HSM.out _).mono ?_; rintro e _ ⟨rfl, rfl⟩) | (with_reducible refine wpList_ldT t7 (by with_unfolding_all rfl) ?_) | (with_reducible refine wpList_store_var _ _ _ (by with_unfolding_all rfl) (by with_unfolding_all rfl) t6 ?_))
 have z0 := ld_pl (k6b.out.setRow #[.slice (some ⟨g, 0, none⟩) 1 1, .int .i64 s]) rfl
 refine bodyPost_ret (v := .agg #[.slice (some ⟨g, 0, none⟩) 1 1, .int .i64 s]) ?_ rfl ⟨g, k, s, rfl, HAS.out, hs, (blk_setRowT HG.out.1 _).trans KG.out, HG.out.2, below_setRowT HB2.out (Nat.le_refl _) _⟩
 rw [results_cell_one rfl]
 simp [asAddr, Result.andThen, Act.put, z0]
end
section
open Go.RowKit
set_option maxRecDepth 1000000
set_option linter.unusedVariables false
theorem fld_pl (g s : Nat) (W : World) : Sem.run Tryz.prog (Instr.field 73 (.agg #[.slice (some ⟨g, 0, none⟩) 1 1, .int .i64 s]) 1) W = .ok (.int .i64 s) W := by with_unfolding_all rfl
theorem fld_pl0 (g s : Nat) (W : World) : Sem.run Tryz.prog (Instr.field 73 (.agg #[.slice (some ⟨g, 0, none⟩) 1 1, .int .i64 s]) 0) W = .ok (.slice (some ⟨g, 0, none⟩) 1 1) W := by with_unfolding_all rfl
theorem asOne0_c (w : World) (htb : Tabs w) (C : Option Addr) (N c : Nat) (T : List Tok) (hT : TRow w C N T) (B : Option Addr) (m cb : Nat) (l : List F) (hG : Good T l) (hl : l.length = m) (hm : m ≤ 1000) :
  Calls Tryz.prog 83 #[.slice C N c, .slice B m cb, .int .i64 0] w fun e w' => ∃ g k s : Nat, e = .returned (.agg #[.slice (some ⟨g, 0, none⟩) 1 1, .int .i64 s]) ∧ AsOne T l 0 k s ∧ s ≤ 1000100 ∧ Blk w' g 77 #[.slice C N c, .slice B m cb, .int .i64 k] ∧ w.heap.size ≤ g ∧ Below w.heap.size w w' :=
 asOne_c w htb C N c T hT (by have := hG.le; have := hT.len; omega) (by rw [hG.okF, hT.len]) B m cb l hl (by omega) 0 (by omega)
theorem Good.row {w : World} {base n c : Nat} {e : TypeId} {A : Option Addr} {T : List Tok} {l : List F} (hG : Good T l) (h : w.ownsRow base e 3 (.slice A n c) n (tC T)) (hn : n = T.length) (hl : l.length ≤ 1000) : TRow w A n T :=
 TRow.ofOwn h hn.symm (by have := hG.le; unfold maxLen; omega) (fun i hi => hG.wf i (by omega))
set_option maxHeartbeats 8000000 in
theorem paying_c (w : World) (htb : Tabs w) (C : Option Addr) (N c : Nat) (T : List Tok) (hT : TRow w C N T) (B : Option Addr) (m cb : Nat) (l : List F) (hl : RowIn w B m cb l) (hG : Good T l) (hm : m ≤ 1000) :
  Calls Tryz.prog 87 #[.slice C N c, .slice B m cb] w fun e w' => ∃ (A' : Option Addr) (n' c' : Nat) (X : List Tok), e = .returned (.slice A' n' c') ∧ TRow w' A' n' X ∧ PayR T l X ∧ Below w.heap.size w w' := by
 have hln := hl.row.len
 have hlt := hT.len
 have hba := (Below.refl w.heap.size w).alloc (Nat.le_refl _) (.cells #[.slice B m cb] 22)
 have HB0 := Lib.hid hba
 have HT := Lib.hid hT
 have HL := Lib.hid hl
 have HTB := Lib.hid htb
 have HG := Lib.hid hG
 have HLN := Lib.hid hln
 have K0 := Lib.hid (Blk.new w 22 #[.slice B m cb])
 have hNm : N ≤ m := by have := hG.le; omega
 by_cases hE : N = m
 ·have z1 : ((N : Int) == (m : Int)) = true := by rw [beq_iff_eq]; omega
  have HP : Hid (PayR T l T) := by unfold Hid PayR; rw [if_pos (by omega)]
  clear hba hT hl htb hG hln hlt hE K0
  go_enter Tryz.func87, Tryz.ntmps87
  go_wp2
  go_ret
  exact ⟨C, N, c, T, rfl, HT.out.below HB0.out, HP.out, HB0.out⟩
 ·have z1 : ((N : Int) == (m : Int)) = false := by rw [beq_eq_false_iff_ne]; omega
  have HNE : Hid (¬ T.length = l.length) := by unfold Hid; omega
  have HBY : Hid (bysF T = m) := by unfold Hid; rw [hG.bys, hln]
  have GA := Lib.hid (hG.wo (fun _ => true))
  have c3 := K0.out.cell 0
  simp only [List.getElem?_toArray, List.getElem?_cons_zero] at c3
  clear hba hT hl htb hG hln hlt hE
  go_enter Tryz.func87, Tryz.ntmps87
  go_wp2_with fail
  generalize hg3 : w.heap.size = g3 at *
  generalize w.alloc (.cells #[.slice B m cb] 22) = W0 at *
  refine (without1_c W0 C N c T (HT.out.below (by rw [← hg3] at HB0; exact HB0.out)) (by omega) HG.out.ok B m cb l (HL.out.below (by rw [← hg3] at HB0; exact HB0.out)) HBY.out hm (fun _ => true) (fun W t _ _ _ => payAll_c t W)).mono ?_
  rintro e w1 ⟨A1, n1, c1, rfl, hn1, hown1, hb1⟩
  have HR1 := Lib.hid (GA.out.row hown1 hn1 (by rw [HLN.out]; exact hm))
  have HB1 := Lib.hid (HB0.out.trans (hb1.mono (by rw [← hg3] at HB0 ⊢; exact HB0.out.size)))
  have K1 := Lib.hid (K0.out.below K0.out.lt hb1)
  clear hn1 hown1 hb1 HB0 K0 c3
  have c3 := K1.out.cell 0
  simp only [List.getElem?_toArray, List.getElem?_cons_zero] at c3
  go_wp2_with fail
  refine (asOne0_c w1 (HTB.out.below (by rw [← hg3] at HB1; exact HB1.out)) A1 n1 c1 _ HR1.out B m cb l GA.out HLN.out hm).mono ?_
  rintro e w2 ⟨gx, ka, a, rfl, hAa, ha, -, -, hb2⟩
  have hfx := fld_pl gx a
  have HAa := Lib.hid hAa
  have hba2 := (Below.refl w2.heap.size w2).alloc (Nat.le_refl _) (.cells #[.int .i64 a] 3)
  have HR2 := Lib.hid ((HR1.out.below hb2).below hba2)
  have HB2 := Lib.hid ((HB1.out.trans (hb2.mono (by rw [← hg3] at HB1 ⊢; exact HB1.out.size))))
  have HB2a := Lib.hid (HB2.out.trans (hba2.mono (by rw [← hg3] at HB2 ⊢; exact HB2.out.size)))
  have K2 := Lib.hid ((K1.out.below K1.out.lt hb2).below (by have := hb2.size; have := K1.out.lt; omega) hba2)
  have K6 := Lib.hid (Blk.new w2 3 #[.int .i64 a])
  clear hAa hb2 hba2 HB1 K1 HR1 c3
  have c3 := K2.out.cell 0
  have c6 := K6.out.cell 0
  simp only [List.getElem?_toArray, List.getElem?_cons_zero] at c3 c6
  have GS := Lib.hid (HG.out.wo (paysF a m))
  go_wp2_with fail
  generalize hg6 : w2.heap.size = g6 at *
  generalize w2.alloc (.cells #[.int .i64 a] 3) = W2 at *
  refine (without2_c W2 C N c T (HT.out.below (by rw [← hg3] at HB2a; exact HB2a.out)) (by omega) HG.out.ok B m cb l (HL.out.below (by rw [← hg3] at HB2a; exact HB2a.out)) HBY.out hm (paysF a m) g6 g3 (fun W t hbW ht h0 => pays_c W t ht h0 g6 g3 a ha B m cb hm (K6.out.below K6.out.lt hbW) (K2.out.below K2.out.lt hbW))).mono ?_
  rintro e w3 ⟨A3, n3, c3', rfl, hn3, hown3, hb3⟩
  have HR3 := Lib.hid (GS.out.row hown3 hn3 (by rw [HLN.out]; exact hm))
  have HR2b := Lib.hid (HR2.out.below hb3)
  have HB3 := Lib.hid (HB2a.out.trans (hb3.mono (by rw [← hg3] at HB2a ⊢; exact HB2a.out.size)))
  have K3 := Lib.hid (K2.out.below K2.out.lt hb3)
  have K7 := Lib.hid (K6.out.below K6.out.lt hb3)
  clear hn3 hown3 hb3 HB2 HB2a K2 K6 HR2 c3 c6
  have c3 := K3.out.cell 0
  have c6 := K7.out.cell 0
  simp only [List.getElem?_toArray, List.getElem?_cons_zero] at c3 c6
  go_wp2_with fail
  refine (asOne0_c w3 (HTB.out.below (by rw [← hg3] at HB3; exact HB3.out)) C N c T (HT.out.below (by rw [← hg3] at HB3; exact HB3.out)) B m cb l HG.out HLN.out hm).mono ?_
  rintro e w4 ⟨gy, kt, t, rfl, hAt, ht, -, -, hb4⟩
  have hfy := fld_pl gy t
  have HAt := Lib.hid hAt
  have HR4 := Lib.hid (HR3.out.below hb4)
  have HR4b := Lib.hid (HR2b.out.below hb4)
  have HB4 := Lib.hid (HB3.out.trans (hb4.mono (by rw [← hg3] at HB3 ⊢; exact HB3.out.size)))
  have K4 := Lib.hid (K3.out.below K3.out.lt hb4)
  have K8 := Lib.hid (K7.out.below K7.out.lt hb4)
  clear hAt hb4 HB3 K3 K7 HR3 HR2b c3 c6
  have c3 := K4.out.cell 0
  have c6 := K8.out.cell 0
  simp only [List.getElem?_toArray, List.getElem?_cons_zero] at c3 c6
  go_wp2_with fail
  refine (asOne0_c w4 (HTB.out.below (by rw [← hg3] at HB4; exact HB4.out)) A3 n3 c3' _ HR4.out B m cb l GS.out HLN.out hm).mono ?_
  rintro e w5 ⟨gz, ks, s, rfl, hAs, hs, -, -, hb5⟩
  have hfz := fld_pl gz s
  have HAs := Lib.hid hAs
  have HR5 := Lib.hid (HR4.out.below hb5)
  have HR5b := Lib.hid (HR4b.out.below hb5)
  have HB5 := Lib.hid (HB4.out.trans (hb5.mono (by rw [← hg3] at HB4 ⊢; exact HB4.out.size)))
  have K9 := Lib.hid (K8.out.below K8.out.lt hb5)
  have HT5 := Lib.hid (HT.out.below (by rw [← hg3] at HB5; exact HB5.out))
  clear hAs hb5 HB4 K4 K8 HR4 HR4b c3 c6
  have c6 := K9.out.cell 0
  simp only [List.getElem?_toArray, List.getElem?_cons_zero] at c6
  have HP : Hid (∀ X, X = (if a < (if s < t then s else t) then woF (fun _ => true) T l else if s < t then woF (paysF a m) T l else T) → PayR T l X) := fun X hX => by
   unfold PayR
   rw [if_neg HNE.out]
   refine ⟨ka, a, ks, s, kt, t, HAa.out, ?_, HAt.out, ?_⟩
   ·rw [HLN.out]; exact HAs.out
   ·rw [HLN.out]; exact hX
  by_cases h1 : s < t
  ·have h1i : (s : Int) < (t : Int) := by omega
   by_cases h2 : a < s
   ·have h2i : (a : Int) < (s : Int) := by omega
    have HX := Lib.hid (HP.out (woF (fun _ => true) T l) (by rw [if_pos h1, if_pos h2]))
    clear HP
    go_wp2
    go_ret
    exact ⟨A1, n1, c1, _, rfl, HR5b.out, HX.out, (by rw [hg3]; exact HB5.out)⟩
   ·have h2i : ¬ (a : Int) < (s : Int) := by omega
    have HX := Lib.hid (HP.out (woF (paysF a m) T l) (by rw [if_pos h1, if_neg h2, if_pos h1]))
    clear HP
    go_wp2
    go_ret
    exact ⟨A3, n3, c3', _, rfl, HR5.out, HX.out, (by rw [hg3]; exact HB5.out)⟩
  ·have h1i : ¬ (s : Int) < (t : Int) := by omega
   by_cases h2 : a < t
   ·have h2i : (a : Int) < (t : Int) := by omega
    have HX := Lib.hid (HP.out (woF (fun _ => true) T l) (by rw [if_neg h1, if_pos h2]))
    clear HP
    go_wp2
    go_ret
    exact ⟨A1, n1, c1, _, rfl, HR5b.out, HX.out, (by rw [hg3]; exact HB5.out)⟩
   ·have h2i : ¬ (a : Int) < (t : Int) := by omega
    have HX := Lib.hid (HP.out T (by rw [if_neg h1, if_neg h2, if_neg h1]))
    clear HP
    go_wp2
    go_ret
    exact ⟨C, N, c, _, rfl, HT5.out, HX.out, (by rw [hg3]; exact HB5.out)⟩
end
end Go.Proofs.YtldgdofefcehnaaGreatDoor
