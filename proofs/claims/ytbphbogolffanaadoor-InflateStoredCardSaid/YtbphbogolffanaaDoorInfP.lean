/-
  STORED BLOCKS, WITHOUT ANY PROGRAM: bytes that are cut anywhere unpack to themselves; with a number of a length turned they don't. No conditions.
-/
import Derived.Test.YtbphbogolffanaaDoorInfO
namespace Go.Proofs.YtbphbogolffanaaDoor
set_option maxRecDepth 100000
set_option linter.unusedVariables false

/-- what a stored block of n bytes begins with, up to 255 of them -/
def hdS (x n : Nat) : List F := [ofN x, ofN n, ofN 0, ofN (255 - n), ofN 255]
def stoR : List Nat → List F → List F
  | [], r => hdS 1 r.length ++ r
  | n :: ns, r => hdS 0 n ++ (r.take n ++ stoR ns (r.drop n))
/-- cuts that are there -/
def fits : List Nat → Nat → Prop
  | [], _ => True
  | n :: ns, m => n ≤ m ∧ fits ns (m - n)
/-- the cuts of numbers -/
def cutN : List Int → Nat → List Nat
  | [], _ => []
  | c :: cs, m => (c % 256).toNat % (m + 1) :: cutN cs (m - (c % 256).toNat % (m + 1))
theorem cutN_fits (c : List Int) : ∀ m, fits (cutN c m) m := by
  induction c with
  | nil => exact fun m => trivial
  | cons x c ih => exact fun m => ⟨by have := Nat.mod_lt (x % 256).toNat (show 0 < m + 1 by omega); omega, ih _⟩
theorem gt_app_add (p q : List F) (i : Nat) : gt (p ++ q) (p.length + i) = gt q i := by
  rw [gt_append, if_neg (by omega)]
  congr 1
  omega
/-- one block -/
theorem sto_step {p body tail : List F} {x n M : Nat} {out : List F} (hx : x < 2) (hn : body.length = n) (hn2 : n ≤ 255) (ho : out.length + n ≤ M) :
    unbF (p ++ (hdS x n ++ (body ++ tail))) M ⟨8 * p.length, out⟩ = .ok (decide (x ≠ 0), ⟨8 * (p.length + 5 + n), out ++ body⟩) := by
  obtain ⟨L, hL⟩ : ∃ L, L = p ++ (hdS x n ++ (body ++ tail)) := ⟨_, rfl⟩
  have hlen : L.length = p.length + 5 + n + tail.length := by rw [hL]; simp [hdS]; omega
  have hg : ∀ i, i < 5 → gt L (p.length + i) = gt (hdS x n) i := fun i hi => by
    rw [hL, gt_app_add, gt_append, if_pos (by simpa [hdS] using hi)]
  have h0 : gt L p.length = ofN x := hg 0 (by omega)
  have h1 : gt L (p.length + 1) = ofN n := hg 1 (by omega)
  have h2 : gt L (p.length + 2) = ofN 0 := hg 2 (by omega)
  have h3 : gt L (p.length + 3) = ofN (255 - n) := hg 3 (by omega)
  have h4 : gt L (p.length + 4) = ofN 255 := hg 4 (by omega)
  have hrb : ∀ j, j < 8 → rb L (8 * p.length + j) = x.testBit j := fun j hj => by
    unfold rb
    rw [show (8 * p.length + j) / 8 = p.length by omega, show (8 * p.length + j) % 8 = j by omega, h0, ofN_n _ (by omega)]
  have hb0 : numB L (8 * p.length) 1 = x := by
    rw [numB_one, show rb L (8 * p.length) = x.testBit 0 from hrb 0 (by omega)]
    have : x = 0 ∨ x = 1 := by omega
    rcases this with rfl | rfl <;> rfl
  have hb1 : numB L (8 * p.length + 1) 2 = 0 := by
    unfold numB
    rw [bsN_congr (g := fun _ => false) (fun i hi => by
      show rb L (8 * p.length + 1 + i) = false
      rw [show 8 * p.length + 1 + i = 8 * p.length + (1 + i) by omega, hrb _ (by omega)]
      exact Nat.testBit_lt_two_pow (Nat.lt_of_lt_of_le hx (by rw [Nat.pow_add]; have := Nat.one_le_two_pow (n := i); omega)))]
    rfl
  have e7 : (8 * p.length + 1 + 2 + 7) / 8 = p.length + 1 := by omega
  have hle1 : le2 L (p.length + 1) = n := by
    unfold le2
    rw [h1, show p.length + 1 + 1 = p.length + 2 from rfl, h2, ofN_n _ (by omega), ofN_n _ (by omega)]
    omega
  have hle3 : le2 L (p.length + 1 + 2) = 65535 - n := by
    unfold le2
    rw [show p.length + 1 + 2 = p.length + 3 from rfl, show p.length + 3 + 1 = p.length + 4 from rfl, h3, h4, ofN_n _ (by omega), ofN_n _ (by omega)]
    omega
  have hsto : stoF L M ⟨8 * p.length + 1 + 2, out⟩ = .ok ⟨8 * (p.length + 5 + n), out ++ body⟩ := by
    rw [stoF_eq L M (a := p.length + 1) (by show _ = (8 * p.length + 1 + 2 + 7) / 8; omega), if_neg (by rw [hlen]; omega), hle3, hle1, if_neg (by omega), if_neg (by show ¬ M < out.length + n; omega), if_neg (by rw [hlen]; omega)]
    have hd : (L.drop (p.length + 1 + 4)).take n = body := by
      rw [hL, show p.length + 1 + 4 = p.length + 5 by omega, ← List.drop_drop, List.drop_left, show (5 : Nat) = (hdS x n).length from rfl, List.drop_left, ← hn, List.take_left]
    rw [hd, show p.length + 1 + 4 + n = p.length + 5 + n by omega]
  rw [← hL]
  unfold unbF
  have hn1 : numF L 1 ⟨8 * p.length, out⟩ = .ok (x, ⟨8 * p.length + 1, out⟩) := by
    unfold numF
    rw [if_pos (by rw [hlen]; show 8 * p.length + 1 ≤ _; omega)]
    show Except.ok (numB L (8 * p.length) 1, _) = _
    rw [hb0]
  have hn3 : numF L 2 ⟨8 * p.length + 1, out⟩ = .ok (0, ⟨8 * p.length + 1 + 2, out⟩) := by
    unfold numF
    rw [if_pos (by rw [hlen]; show 8 * p.length + 1 + 2 ≤ _; omega)]
    show Except.ok (numB L (8 * p.length + 1) 2, _) = _
    rw [hb1]
  rw [hn1, bnd_ok, hn3, bnd_ok, if_pos rfl, hsto, bnd_ok]
/-- all blocks -/
theorem sto_all {M : Nat} : ∀ (ns : List Nat) (r p out : List F), fits ns r.length → r.length ≤ 255 → out.length + r.length ≤ M →
    loopF (8 * (p ++ stoR ns r).length) (unbF (p ++ stoR ns r) M) ⟨8 * p.length, out⟩ = .ok ⟨8 * (p ++ stoR ns r).length, out ++ r⟩ := by
  intro ns
  induction ns with
  | nil =>
    intro r p out _ hr ho
    have h := sto_step (p := p) (body := r) (tail := []) (x := 1) (out := out) (by omega) rfl hr ho
    rw [List.append_nil] at h
    rw [show stoR [] r = hdS 1 r.length ++ r from rfl, loopF_done h]
    congr 3
    simp [hdS]; omega
  | cons n ns ih =>
    intro r p out hf hr ho
    obtain ⟨hn, hf⟩ := hf
    have h := sto_step (p := p) (body := r.take n) (tail := stoR ns (r.drop n)) (x := 0) (n := n) (M := M) (out := out) (by omega) (by simp; omega) (by omega) (by omega)
    have e : stoR (n :: ns) r = hdS 0 n ++ (r.take n ++ stoR ns (r.drop n)) := rfl
    have hl5 : (p ++ (hdS 0 n ++ r.take n)).length = p.length + 5 + n := by simp [hdS]; omega
    have e2 : p ++ stoR (n :: ns) r = (p ++ (hdS 0 n ++ r.take n)) ++ stoR ns (r.drop n) := by rw [e]; simp [List.append_assoc]
    have hi := ih (r.drop n) (p ++ (hdS 0 n ++ r.take n)) (out ++ r.take n) (by rw [List.length_drop]; exact hf) (by rw [List.length_drop]; omega) (by simp; omega)
    rw [hl5, ← e2, List.append_assoc, List.take_append_drop] at hi
    rw [← hi]
    refine loopF_more (by rw [e]; exact h) (by show 8 * p.length < 8 * (p.length + 5 + n); omega) ?_
    show 8 * (p.length + 5 + n) ≤ _
    rw [e2, List.length_append, hl5]
    omega
theorem stoR_five (ns : List Nat) (r : List F) : 5 ≤ (stoR ns r).length := by
  cases ns with
  | nil => simp [stoR, hdS]
  | cons n ns => simp [stoR, hdS]
theorem sto_ok {l : List F} {ns : List Nat} {M : Nat} (hf : fits ns l.length) (hl : l.length ≤ 255) (hM : l.length ≤ M) : allF (stoR ns l) M = .ok l := by
  have h := sto_all (M := M) ns l [] [] hf hl (by simpa using hM)
  simp only [List.nil_append, List.length_nil, Nat.mul_zero] at h
  unfold allF
  rw [show unpF (stoR ns l) M = .ok ⟨8 * (stoR ns l).length, l⟩ from h, bnd_ok, if_neg (by show ¬ (8 * (stoR ns l).length + 7) / 8 < _; omega)]
/-- the first block's header -/
theorem stoR_head (ns : List Nat) (l : List F) (hf : fits ns l.length) : ∃ x n rest, x < 2 ∧ n ≤ l.length ∧ stoR ns l = hdS x n ++ rest := by
  cases ns with
  | nil => exact ⟨1, l.length, l, by omega, Nat.le_refl _, rfl⟩
  | cons n ns => exact ⟨0, n, _, by omega, hf.1, rfl⟩
/-- a number of a length is another one -/
theorem sto_turned {l : List F} {ns : List Nat} {M : Nat} (hf : fits ns l.length) (hl : l.length ≤ 255) (a b : F) (hab : ¬ (a = 0 ∧ b = 0)) :
    allF (((stoR ns l).set 1 (gt (stoR ns l) 1 + a)).set 2 (gt (stoR ns l) 2 + b)) M = .error 33 := by
  obtain ⟨x, n, rest, hx, hn, e⟩ := stoR_head ns l hf
  rw [e]
  obtain ⟨L, hL⟩ : ∃ L, L = ((hdS x n ++ rest).set 1 (gt (hdS x n ++ rest) 1 + a)).set 2 (gt (hdS x n ++ rest) 2 + b) := ⟨_, rfl⟩
  rw [← hL]
  have hlen : L.length = 5 + rest.length := by rw [hL]; simp [hdS]; omega
  have eL : L = ofN x :: (ofN n + a) :: (ofN 0 + b) :: ofN (255 - n) :: ofN 255 :: rest := by rw [hL]; rfl
  have h0 : gt L 0 = ofN x := by rw [eL]; rfl
  have hrb : ∀ j, j < 8 → rb L j = x.testBit j := fun j hj => by
    unfold rb
    rw [show j / 8 = 0 by omega, show j % 8 = j by omega, h0, ofN_n _ (by omega)]
  have hb1 : numB L 1 2 = 0 := by
    unfold numB
    rw [bsN_congr (g := fun _ => false) (fun i hi => by
      show rb L (1 + i) = false
      rw [hrb _ (by omega)]
      exact Nat.testBit_lt_two_pow (Nat.lt_of_lt_of_le hx (by rw [Nat.pow_add]; have := Nat.one_le_two_pow (n := i); omega)))]
    rfl
  have hle1 : le2 L 1 = (ofN n + a).n + 256 * (ofN 0 + b).n := by unfold le2; rw [eL]; rfl
  have hle3 : le2 L 3 = 65535 - n := by
    unfold le2
    rw [eL]
    show (ofN (255 - n)).n + 256 * (ofN 255).n = _
    rw [ofN_n _ (by omega), ofN_n _ (by omega)]
    omega
  have hne : le2 L 3 ≠ 65535 - le2 L 1 := by
    rw [hle3, hle1]
    intro h
    have l1 := (ofN n + a).lt
    have l2 := (ofN 0 + b).lt
    have e1 : (ofN n + a).n = (ofN n).n := by rw [ofN_n n (by omega)]; omega
    have e2 : (ofN 0 + b).n = (ofN 0).n := by rw [ofN_n 0 (by omega)]; omega
    refine hab ⟨?_, ?_⟩
    · exact add_left_inj ((F.ext e1).trans (add_zero _).symm)
    · exact add_left_inj ((F.ext e2).trans (add_zero _).symm)
  have hsto : stoF L M ⟨3, []⟩ = .error 33 := by
    rw [stoF_eq L M (a := 1) rfl, if_neg (by rw [hlen]; omega), if_pos hne]
  have hn1 : numF L 1 ⟨0, []⟩ = .ok (numB L 0 1, ⟨1, []⟩) := if_pos (by rw [hlen]; show 0 + 1 ≤ _; omega)
  have hn3 : numF L 2 ⟨1, []⟩ = .ok (0, ⟨3, []⟩) := by
    unfold numF
    rw [if_pos (by rw [hlen]; show 1 + 2 ≤ _; omega)]
    show Except.ok (numB L 1 2, _) = _
    rw [hb1]
  have hun : unpF L M = .error 33 := loopF_error (by
    unfold unbF
    rw [hn1, bnd_ok, hn3, bnd_ok, if_pos rfl, hsto]; rfl)
  unfold allF
  rw [hun]; rfl
end Go.Proofs.YtbphbogolffanaaDoor
