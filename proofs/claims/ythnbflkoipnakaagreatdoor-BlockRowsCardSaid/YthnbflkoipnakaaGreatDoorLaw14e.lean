/-
  LAW 14: BlockRows. No conditions (but that the tables lie as the program's text lays them).
-/
import Derived.Test.YthnbflkoipnakaaGreatDoorLaw14b
import Derived.Test.YthnbflkoipnakaaGreatDoorJoin
namespace Go.Proofs.YthnbflkoipnakaaGreatDoor
open Go.RowKit
set_option maxRecDepth 1000000
set_option linter.unusedVariables false

/-- rows, one behind the other -/
def catB (R : Nat → List F) : Nat → List F
  | 0 => []
  | k + 1 => catB R k ++ R k
/-- how a block's call ends -/
def StepB (p : Nat) (a : Option Nat) (last : Bool) (X : List Bool) (o b : List F) (W : World) (w' : World) : Prop :=
  ∃ A' len' cap' m' X', BkS 1000 last X X' o (o ++ b) ∧ X'.length ≤ X.length + 8000 ∧ Wr w' p A' len' cap' m' X' ∧ WOut p a (Value.slice A' len' cap').ownBlock W w'
theorem sto_step {w0 w : World} {p : Nat} {A : Option Addr} {len cap m : Nat} {X : List Bool} (h : Wr w p A len cap m X) (B : Option Addr) (n cb : Nat) (b o : List F) (hl : RowIn w0 B n cb b) (hb : Below w0.heap.size w0 w) (hp : w0.heap.size ≤ p) (hn : n ≤ 60) (ho : o.length + n ≤ 1000) (hX : X.length ≤ 64000) (last : Bool) :
    Calls Tryz.prog 10 #[.pointer (some ⟨p, 0, none⟩), .slice B n cb, .bool last] w fun e w' => e = .returned (.int .i64 0) ∧ StepB p (Value.slice A len cap).ownBlock last X o b w w' := by
  have hbl := hl.row.len
  have hm : m = X.length := h.hn.out
  refine (Stored_c h B n cb b hl hb hp (by omega) last (by omega)).mono ?_
  rintro e w' ⟨rfl, A', len', cap', m', hW, hO⟩
  exact ⟨rfl, A', len', cap', m', _, BkS.sto (by omega) (by omega), by rw [stoB_len]; omega, hW, hO⟩
theorem fix_step {w : World} {p : Nat} {A : Option Addr} {len cap m : Nat} {X : List Bool} (h : Wr w p A len cap m X) (C : Option Addr) (n c : Nat) (b o : List F) (hJ : ∀ W b', WOut p (Value.slice A len cap).ownBlock b' w W → Tabs W ∧ TRow W C n (litT b)) (hbl : b.length = n) (hn : n ≤ 60) (ho : o.length + n ≤ 1000) (hX : X.length ≤ 64000) (last : Bool) :
    Calls Tryz.prog 17 #[.pointer (some ⟨p, 0, none⟩), .slice C n c, .bool last] w fun e w' => e = .returned (.int .i64 0) ∧ StepB p (Value.slice A len cap).ownBlock last X o b w w' := by
  have hm : m = X.length := h.hn.out
  refine (FixedB_j h C n c (litT b) hJ (by omega) (by rw [okF_lit, litT_length, hbl]) last (by omega)).mono ?_
  rintro e w' ⟨rfl, A', len', cap', m', hW, hO⟩
  exact ⟨rfl, A', len', cap', m', _, BkS.fixed (exF_lit b o (by omega)), by rw [List.length_append, fixB_lit, hbl]; have := nineF_le b; omega, hW, hO⟩
theorem dyn_step {w : World} {p : Nat} {A : Option Addr} {len cap m : Nat} {X : List Bool} (h : Wr w p A len cap m X) (C : Option Addr) (n c : Nat) (b o : List F) (hJ : ∀ W b', WOut p (Value.slice A len cap).ownBlock b' w W → Tabs W ∧ TRow W C n (litT b)) (hbl : b.length = n) (hn : n ≤ 60) (ho : o.length + n ≤ 1000) (hX : X.length ≤ 64000) (last : Bool) :
    Calls Tryz.prog 20 #[.pointer (some ⟨p, 0, none⟩), .slice C n c, .bool last] w fun e w' => e = .returned (.int .i64 0) ∧ StepB p (Value.slice A len cap).ownBlock last X o b w w' := by
  have hm : m = X.length := h.hn.out
  refine (DynamicB_j h C n c (litT b) hJ (by omega) (by rw [okF_lit, litT_length, hbl]) last (by omega)).mono ?_
  rintro e w' ⟨rfl, A', len', cap', m', LL, LD, R, LA, h1, h2, h3, h4, hW, hO⟩
  have hY : DynY (litT b) last (dynB (tdL LL 286 257) (tdL LD 30 1) LA R (litT b) last) := ⟨LL, LD, LA, R, h1, h2, h3, h4, rfl⟩
  have hYl := hY.lit_le (litT_lit b)
  rw [litT_length, hbl] at hYl
  exact ⟨rfl, A', len', cap', m', _, BkS.dyn (exF_lit b o (by omega)) hY, by rw [List.length_append]; omega, hW, hO⟩
/-- the writer, and the bytes so far -/
structure RowE (w0 : World) (A1 : Option Addr) (len1 cap1 m1 : Nat) (X : List Bool) (A' : Option Addr) (N c' : Nat) (o : List F) (W : World) : Prop where
  bel : Below w0.heap.size w0 W
  wrt : Wr W w0.heap.size A1 len1 cap1 m1 X
  own : W.ownsRow (w0.heap.size + 1) 5 1 (.slice A' N c') N (cs o)
  sep : ∀ g, (Value.slice A' N c').ownBlock = some g → (Value.slice A1 len1 cap1).ownBlock ≠ some g
namespace RowE
variable {w0 W W' : World} {A1 A2 A' A'' : Option Addr} {len1 cap1 m1 len2 cap2 m2 N c' N2 c2 : Nat} {X X2 : List Bool} {o o2 : List F}
theorem go (h : RowE w0 A1 len1 cap1 m1 X A' N c' o W) (hb : Below W.heap.size W W') : RowE w0 A1 len1 cap1 m1 X A' N c' o W' :=
  ⟨h.bel.trans (hb.mono h.bel.size), h.wrt.below hb, own_below h.own hb, h.sep⟩
/-- the writer has written -/
theorem wrote (h : RowE w0 A1 len1 cap1 m1 X A' N c' o W) (hW : Wr W' w0.heap.size A2 len2 cap2 m2 X2) (hO : WOut w0.heap.size (Value.slice A1 len1 cap1).ownBlock (Value.slice A2 len2 cap2).ownBlock W W') : RowE w0 A2 len2 cap2 m2 X2 A' N c' o W' :=
  ⟨h.wrt.keeps hO h.bel (Nat.le_refl _), hW, own_blk h.own fun g hg => hO.block g (h.own.lt g hg).2 (by have := (h.own.lt g hg).1; omega) (h.sep g hg), fun g hg => by
    rcases hO.nw with e | e
    · rw [e]; exact h.sep g hg
    · intro e2
      have := e g e2
      have := (h.own.lt g hg).2
      omega⟩
/-- bytes have been appended -/
theorem added (h : RowE w0 A1 len1 cap1 m1 X A' N c' o W) (hown : W'.ownsRow (w0.heap.size + 1) 5 1 (.slice A'' N2 c2) N2 (cs o2)) (hg : W.grownBy W' (Value.slice A' N c').ownBlock) (hn : (Value.slice A'' N2 c2).ownBlock = (Value.slice A' N c').ownBlock ∨ ∀ g, (Value.slice A'' N2 c2).ownBlock = some g → W.heap.size ≤ g) : RowE w0 A1 len1 cap1 m1 X A'' N2 c2 o2 W' := by
  obtain ⟨_, _, _, hsz, hblk0⟩ := id hg
  have hblk : ∀ k, k < W.heap.size → (Value.slice A' N c').ownBlock ≠ some k → W'.heap[k]? = W.heap[k]? := fun k hk hne => hblk0 k hk (fun e => hne e.symm)
  have hp : (Value.slice A' N c').ownBlock ≠ some w0.heap.size := fun e => by have := (h.own.lt _ e).1; omega
  refine ⟨h.bel.grown hg h.bel.size (fun g e => by have := (h.own.lt g e).1; omega), ⟨?_, own_blk h.wrt.own fun g e => hblk g (h.wrt.own.lt g e).2 (fun e2 => h.sep g e2 e), h.wrt.hl, h.wrt.hn, h.wrt.few⟩, hown, fun g hg2 e => ?_⟩
  · have h1 := h.wrt.blk
    have h2 := hblk _ h.wrt.lt hp
    unfold Blk at h1 ⊢
    rw [h2]
    exact h1
  · rcases hn with h3 | h3
    · rw [h3] at hg2
      exact h.sep g hg2 e
    · have := h3 g hg2
      have := (h.wrt.own.lt g e).2
      omega
end RowE
theorem catB_len (R : Nat → List F) (RL : Nat → Nat) (n : Nat) (h : ∀ r, r < n → (R r).length = RL r) : ∀ k, k ≤ n → (∀ r, r < k → RL r ≤ 60) → (catB R k).length ≤ 60 * k := by
  intro k
  induction k with
  | zero => intro _ _; exact Nat.le_refl _
  | succ k ih =>
    intro h1 h2
    have h3 := ih (by omega) (fun r hr => h2 r (by omega))
    have h4 := h2 k (by omega)
    have h5 := h k (by omega)
    show (catB R k ++ R k).length ≤ _
    rw [List.length_append]
    omega
theorem new_wr (w : World) : RowE w none 0 0 0 [] (some ⟨w.heap.size + 1, 0, none⟩) 0 0 [] ((w.alloc (.cells #[.slice none 0 0, .int .i64 0] 48)).alloc (.cells #[] 5)) := by
  have k1 := Wr.fresh w #[.slice none 0 0, .int .i64 0] rfl
  have ho := World.ownsRow_lit (base := w.heap.size + 1) (e := 5) (size := 1) (w.alloc (.cells #[.slice none 0 0, .int .i64 0] 48)) #[] 0 (by simp) (by unfold maxLen; omega) rfl
  rw [World.size_alloc] at ho
  exact ⟨((Below.refl w.heap.size w).alloc (Nat.le_refl _) _).alloc (by simp) _, k1.below ((Below.refl _ _).alloc (Nat.le_refl _) _), ho, fun g _ => none_ne g⟩
set_option maxHeartbeats 16000000 in
theorem rows_main (w : World) (ht : Tabs w) (A : Option Addr) (n cap : Nat) (RA : Nat → Option Addr) (RL RC : Nat → Nat) (R : Nat → List F) (hM : MIn w A n cap RA RL RC R) (B : Option Addr) (m cb : Nat) (kl : List Int) (hk : IRow w B m .i64 kl) (hn1 : 1 ≤ n) (hn8 : n ≤ 8) (hnm : n ≤ m) :
    Calls Tryz.prog 5 #[.slice A n cap, .slice B m cb] w fun e w' => e = .returned (.bool true) ∧ Below w.heap.size w w' := by
  obtain ⟨i3, hi3, hy0, hy1, hy2⟩ := info_parts info_tk3
  obtain ⟨i0, hi0, hz0, hz1, hz2⟩ := info_parts info_u8
  have HT0 := Lib.hid ht
  have HM0 := Lib.hid hM
  have HK0 := Lib.hid hk
  have t1 : ((n : Int) == 0) = false := by rw [beq_eq_false_iff_ne]; omega
  have t2 : decide ((8 : Int) < (n : Int)) = false := decide_eq_false (by omega)
  have t3 : decide ((m : Int) < (n : Int)) = false := decide_eq_false (by omega)
  have t4 : decide (m < n) = false := decide_eq_false (by omega)
  clear ht hM hk
  go_enter Tryz.func5, Tryz.ntmps5
  go_wp2_with fail
  refine (alive14_c w HT0.out).mono ?_
  rintro e w0 ⟨rfl, hb⟩
  have HT := Lib.hid (HT0.out.below hb)
  have HM := Lib.hid (HM0.out.below hb)
  have HK := Lib.hid (HK0.out.below hb)
  have HB0 := Lib.hid hb
  have HN0 := Lib.hid (new_wr w0)
  have HLN : Hid (∀ r, r < n → (R r).length = RL r) := fun r hr => (HM.out.row r hr).row.len
  clear hb HT0 HM0 HK0
  go_wp2
  go_loopw [6, 36] (fun av kv wr => ∃ (k : Nat) (A' : Option Addr) (N c' : Nat) (A1 : Option Addr) (len1 cap1 m1 : Nat) (X : List Bool), k ≤ n ∧ kv = .int .i64 k ∧ av = .slice A' N c' ∧ X.length ≤ 8000 * k ∧ Hid (RowE w0 A1 len1 cap1 m1 X A' N c' (catB R k) wr) ∧ Hid (∀ r, r < k → RL r ≤ 60) ∧ Hid (k < n ∧ UpTo 1000 X (catB R k) ∨ k = n ∧ unpF (pack X) 1000 = .ok ⟨X.length, catB R k⟩)) (fun _ kv _ => n - (intOf kv).toNat)
  case atStart => exact ⟨0, _, 0, 0, none, 0, 0, 0, [], by omega, rfl, rfl, by simp, HN0, fun r hr => by omega, .inl ⟨by omega, UpTo.nil 1000⟩⟩
  case round =>
    clear HN0
    obtain ⟨k, A', N, c', A1, len1, cap1, m1, X, hkn, rfl, rfl, hX, hE, h60, hU⟩ := hrel
    by_cases hlt : k < n
    · have hlti : (k : Int) < (n : Int) := by omega
      obtain ⟨b, off, rfl, hbl, hc⟩ := (HM.out.below hE.out.bel).at_ hlt
      have HRW := Lib.hid (HM.out.row k hlt)
      have HLK := Lib.hid (HLN.out k hlt)
      have HCL := Lib.hid (catB_len R RL n HLN.out k hkn h60.out)
      by_cases hL : RL k ≤ 60
      · have hLi : decide ((60 : Int) < (RL k : Int)) = false := decide_eq_false (by omega)
        have h61 : Hid (∀ r, r < k + 1 → RL r ≤ 60) := fun r hr => by
          by_cases e : r = k
          · subst e; exact hL
          · exact h60.out r (by omega)
        generalize RL k = L at *
        generalize RA k = BA at *
        generalize RC k = BC at *
        have E2 := Lib.hid (hE.out.go ((Below.refl wr.heap.size wr).alloc (Nat.le_refl _) (.cells #[] 53)))
        have O2 : Hid ((wr.alloc (.cells #[] 53)).ownsRow wr.heap.size 53 3 (.slice (some ⟨wr.heap.size, 0, none⟩) 0 0) 0 (tC (litT ((R k).take 0)))) := World.ownsRow_lit (base := wr.heap.size) (e := 53) (size := 3) wr #[] 0 (Nat.le_refl _) (by unfold maxLen; omega) rfl
        have HWS : Hid (∀ g, (Value.slice A1 len1 cap1).ownBlock = some g → g < wr.heap.size) := fun g hg => (hE.out.wrt.own.lt g hg).2
        have HPS : Hid (w0.heap.size < wr.heap.size) := hE.out.wrt.lt
        have hHs : Hid (Below wr.heap.size wr (wr.alloc (.cells #[] 53))) := (Below.refl wr.heap.size wr).alloc (Nat.le_refl _) _
        go_wp2
        generalize wr = W1 at *
        go_loopw [9, 47] (fun tv jv wr => ∃ (j : Nat) (A2 : Option Addr) (c2 : Nat), j ≤ L ∧ jv = .int .i64 j ∧ tv = .slice A2 j c2 ∧ Hid (Below W1.heap.size W1 wr) ∧ Hid (wr.ownsRow W1.heap.size 53 3 (.slice A2 j c2) j (tC (litT ((R k).take j))))) (fun _ jv _ => L - (intOf jv).toNat)
        case atStart => exact ⟨0, _, 0, by omega, rfl, rfl, hHs, O2⟩
        case round =>
          clear O2 hHs E2
          obtain ⟨j, A2, c2, hjL, rfl, rfl, hBj, hOj⟩ := hrel
          have E3 := Lib.hid (hE.out.go hBj.out)
          by_cases hjl : j < L
          · have hji : (j : Int) < (L : Int) := by omega
            obtain ⟨b2, off2, hBA, hbl2, hc2⟩ := (HRW.out.below E3.out.bel).row.at_ hjl
            have htk : Hid ((R k).take (j + 1) = (R k).take j ++ [gt (R k) j]) := by
              unfold Hid
              rw [List.take_succ_eq_append_getElem (by rw [HLK.out]; exact hjl), gt_lt (by rw [HLK.out]; exact hjl)]
            generalize gt (R k) j = x at *
            have T2 := Lib.hid (tok1_row wr ⟨x, 0, 0⟩ ⟨rfl, rfl⟩ _ rfl)
            have hba := (Below.refl wr.heap.size wr).alloc (Nat.le_refl _) (.cells #[.int .u8 x.n, .int .i64 0, .int .i64 0] 53)
            have B2 := Lib.hid (hBj.out.alloc hBj.out.size (.cells #[.int .u8 x.n, .int .i64 0, .int .i64 0] 53))
            have O3 := Lib.hid (own_bel hOj.out hba)
            clear hba
            subst hBA
            go_wp2_with (at_builtin; refine wpList_append_toks i3 hi3 hy0 hy1 hy2 rfl _ _ rfl W1.heap.size (.slice A2 j c2) j _ rfl O3.out (some ⟨wr.heap.size, 0, none⟩) 1 1 [⟨x, 0, 0⟩] rfl T2.out (by omega) B2.out.size ?_; intro v4 w4 hL4; obtain ⟨A4, c4, rfl, hown4, hg4, hnw4⟩ := hL4)
            rw [← litT_snoc, ← htk.out] at hown4
            have B4 : Hid (Below W1.heap.size W1 w4) := B2.out.grown hg4 B2.out.size (fun g hg => (O3.out.lt g hg).1)
            have O4 := Lib.hid hown4
            clear hown4 hg4 hnw4
            go_roundw
            case rel => exact ⟨j + 1, A4, c4, by omega, by go_num, rfl, B4, O4⟩
            case measure => simp [intOf]; omega
          · have hji : ¬ (j : Int) < (L : Int) := by omega
            obtain rfl : j = L := by omega
            have hO4 := hOj.out
            have htk : (R k).take j = R k := by rw [← HLK.out, List.take_length]
            rw [htk] at hO4
            have TR := Lib.hid (litT_row hO4)
            have OT := Lib.hid hO4
            have E4 := Lib.hid E3.out
            have hU2 : UpTo 1000 X (catB R k) := by
              rcases hU.out with h | h
              · exact h.2
              · omega
            have HUP := Lib.hid hU2
            obtain ⟨lb, hlb⟩ : ∃ lb : Bool, lb = decide (k + 1 = n) := ⟨_, rfl⟩
            have HLB := Lib.hid hlb
            have t5 : ((k : Int) == (n : Int) - 1) = lb := by
              rw [hlb, Bool.eq_iff_iff, beq_iff_eq, decide_eq_true_eq]
              omega
            obtain ⟨b5, o5, hB5, _, hc5⟩ := (HK.out.below E4.out.bel).at_ (show k < m by omega)
            generalize gi kl k = kv at *
            obtain ⟨z, hz3, hand⟩ : ∃ z : Nat, z ≤ 3 ∧ bits .and .i64 kv 3 = (z : Int) := by
              have h := andLow kv 2 (by decide)
              refine ⟨(kv % 2 ^ 2).toNat, by omega, ?_⟩
              rw [show (3 : Int) = ((2 ^ 2 - 1 : Nat) : Int) from rfl, h]
              omega
            have hNl : N = (catB R k).length := (own_len E4.out.own).symm
            have hNb : (catB R k).length ≤ 480 := by have := HCL.out; omega
            have hNb2 : N ≤ 480 := by omega
            have hkm : (k : Int) < (m : Int) := by omega
            have hJ : Hid (∀ W b', WOut w0.heap.size (Value.slice A1 len1 cap1).ownBlock b' wr W → Tabs W ∧ TRow W A2 j (litT (R k))) := fun W b' ho =>
              ⟨HT.out.below (E4.out.wrt.keeps ho E4.out.bel (Nat.le_refl _)), TR.out.wout ho (fun bb oo e => by
                subst e
                have h1 := (OT.out.lt bb rfl).1
                exact ⟨by have := HPS.out; omega, fun e2 => by have := HWS.out bb e2; omega⟩)⟩
            clear hU hU2 hO4 htk hBj hOj E3 hlb hNl
            subst hB5
            have hzc : z = 0 ∨ z = 1 ∨ (z ≠ 0 ∧ z ≠ 1) := by omega
            rcases hzc with rfl | rfl | ⟨hz5, hz6⟩
            · go_wp2_with fail
              refine (sto_step E4.out.wrt BA j BC (R k) (catB R k) HRW.out E4.out.bel (Nat.le_refl _) (by omega) (by omega) (by omega) lb).mono ?_
              rintro e w5 ⟨rfl, A5, len5, cap5, m5, X5, hBk, hXl, hW5, hO5⟩
              have E5 := Lib.hid (E4.out.wrote hW5 hO5)
              have HBK := Lib.hid hBk
              clear hW5 hO5 hBk
              go_wp2_with (at_builtin; refine wpList_append_row i0 hi0 hz0 hz1 hz2 rfl _ _ rfl (w0.heap.size + 1) (.slice A' N c') N (cs (catB R k)) rfl E5.out.own BA j BC (R k) rfl (HRW.out.below E5.out.bel).row (by omega) E5.out.wrt.lt ?_; intro v7 w7 hL7; obtain ⟨A7, c7, rfl, hown7, hg7, hnw7⟩ := hL7)
              rw [← cs_append] at hown7
              have E7 : Hid (RowE w0 A5 len5 cap5 m5 X5 A7 (N + j) c7 (catB R (k + 1)) w7) := E5.out.added hown7 hg7 hnw7
              have HU7 : Hid (k + 1 < n ∧ UpTo 1000 X5 (catB R (k + 1)) ∨ k + 1 = n ∧ unpF (pack X5) 1000 = .ok ⟨X5.length, catB R (k + 1)⟩) := by
                by_cases hlast : k + 1 = n
                · refine .inr ⟨hlast, ?_⟩
                  have h1 := HBK.out
                  rw [HLB.out, decide_eq_true hlast] at h1
                  exact HUP.out.done h1
                · refine .inl ⟨by omega, ?_⟩
                  have h1 := HBK.out
                  rw [HLB.out, decide_eq_false hlast] at h1
                  exact HUP.out.next h1
              clear hown7 hg7 hnw7 E5 HBK
              go_roundw
              case rel => exact ⟨k + 1, A7, N + j, c7, A5, len5, cap5, m5, X5, by omega, by go_num, rfl, by omega, E7, h61, HU7⟩
              case measure => simp [intOf]; omega
            · go_wp2_with fail
              refine (fix_step E4.out.wrt A2 j c2 (R k) (catB R k) hJ.out HLK.out (by omega) (by omega) (by omega) lb).mono ?_
              rintro e w5 ⟨rfl, A5, len5, cap5, m5, X5, hBk, hXl, hW5, hO5⟩
              have E5 := Lib.hid (E4.out.wrote hW5 hO5)
              have HBK := Lib.hid hBk
              clear hW5 hO5 hBk
              go_wp2_with (at_builtin; refine wpList_append_row i0 hi0 hz0 hz1 hz2 rfl _ _ rfl (w0.heap.size + 1) (.slice A' N c') N (cs (catB R k)) rfl E5.out.own BA j BC (R k) rfl (HRW.out.below E5.out.bel).row (by omega) E5.out.wrt.lt ?_; intro v7 w7 hL7; obtain ⟨A7, c7, rfl, hown7, hg7, hnw7⟩ := hL7)
              rw [← cs_append] at hown7
              have E7 : Hid (RowE w0 A5 len5 cap5 m5 X5 A7 (N + j) c7 (catB R (k + 1)) w7) := E5.out.added hown7 hg7 hnw7
              have HU7 : Hid (k + 1 < n ∧ UpTo 1000 X5 (catB R (k + 1)) ∨ k + 1 = n ∧ unpF (pack X5) 1000 = .ok ⟨X5.length, catB R (k + 1)⟩) := by
                by_cases hlast : k + 1 = n
                · refine .inr ⟨hlast, ?_⟩
                  have h1 := HBK.out
                  rw [HLB.out, decide_eq_true hlast] at h1
                  exact HUP.out.done h1
                · refine .inl ⟨by omega, ?_⟩
                  have h1 := HBK.out
                  rw [HLB.out, decide_eq_false hlast] at h1
                  exact HUP.out.next h1
              clear hown7 hg7 hnw7 E5 HBK
              go_roundw
              case rel => exact ⟨k + 1, A7, N + j, c7, A5, len5, cap5, m5, X5, by omega, by go_num, rfl, by omega, E7, h61, HU7⟩
              case measure => simp [intOf]; omega
            · have z0 : ((z : Int) == 0) = false := by rw [beq_eq_false_iff_ne]; omega
              have z1 : ((z : Int) == 1) = false := by rw [beq_eq_false_iff_ne]; omega
              go_wp2_with fail
              refine (dyn_step E4.out.wrt A2 j c2 (R k) (catB R k) hJ.out HLK.out (by omega) (by omega) (by omega) lb).mono ?_
              rintro e w5 ⟨rfl, A5, len5, cap5, m5, X5, hBk, hXl, hW5, hO5⟩
              have E5 := Lib.hid (E4.out.wrote hW5 hO5)
              have HBK := Lib.hid hBk
              clear hW5 hO5 hBk
              go_wp2_with (at_builtin; refine wpList_append_row i0 hi0 hz0 hz1 hz2 rfl _ _ rfl (w0.heap.size + 1) (.slice A' N c') N (cs (catB R k)) rfl E5.out.own BA j BC (R k) rfl (HRW.out.below E5.out.bel).row (by omega) E5.out.wrt.lt ?_; intro v7 w7 hL7; obtain ⟨A7, c7, rfl, hown7, hg7, hnw7⟩ := hL7)
              rw [← cs_append] at hown7
              have E7 : Hid (RowE w0 A5 len5 cap5 m5 X5 A7 (N + j) c7 (catB R (k + 1)) w7) := E5.out.added hown7 hg7 hnw7
              have HU7 : Hid (k + 1 < n ∧ UpTo 1000 X5 (catB R (k + 1)) ∨ k + 1 = n ∧ unpF (pack X5) 1000 = .ok ⟨X5.length, catB R (k + 1)⟩) := by
                by_cases hlast : k + 1 = n
                · refine .inr ⟨hlast, ?_⟩
                  have h1 := HBK.out
                  rw [HLB.out, decide_eq_true hlast] at h1
                  exact HUP.out.done h1
                · refine .inl ⟨by omega, ?_⟩
                  have h1 := HBK.out
                  rw [HLB.out, decide_eq_false hlast] at h1
                  exact HUP.out.next h1
              clear hown7 hg7 hnw7 E5 HBK
              go_roundw
              case rel => exact ⟨k + 1, A7, N + j, c7, A5, len5, cap5, m5, X5, by omega, by go_num, rfl, by omega, E7, h61, HU7⟩
              case measure => simp [intOf]; omega
      · have hLi : decide ((60 : Int) < (RL k : Int)) = true := decide_eq_true (by omega)
        go_wp2
        go_ret
        exact ⟨rfl, HB0.out.trans (hE.out.bel.mono HB0.out.size)⟩
    · have hlti : ¬ (k : Int) < (n : Int) := by omega
      obtain rfl : k = n := by omega
      have hun : unpF (pack X) 1000 = .ok ⟨X.length, catB R k⟩ := by
        rcases hU.out with h | h
        · omega
        · exact h.2
      have HUN := Lib.hid hun
      have hl1 : len1 = (X.length + 7) / 8 := hE.out.wrt.hl.out
      have hk1 : len1 ≤ 10000 := by omega
      have HL1 := Lib.hid hl1
      have HNL : Hid ((catB R k).length = N) := own_len hE.out.own
      clear hU hun hl1
      go_wp2_with fail
      refine (DoneB_c hE.out.wrt).mono ?_
      rintro e w5 ⟨A5, c5, rfl, hown5, hb5⟩
      have E5 := Lib.hid (hE.out.go hb5)
      have HUC := Lib.hid (RefUnpack_c w5 A5 len1 c5 (pack X) (own_in hown5) hk1 1000 1000 rfl (by omega))
      clear hown5 hb5
      go_wp2_with fail
      refine HUC.out.mono ?_
      rintro e w6 hU6
      rw [HUN.out] at hU6
      rcases hU6 with ⟨z, h1, _⟩ | ⟨u, A6, n6, c6, h1, rfl, hown6, hb6⟩
      · cases h1
      injection h1 with h1
      subst h1
      have hn6 : n6 = N := by have := own_len hown6; have := HNL.out; simp at *; omega
      subst hn6
      have E6 := Lib.hid (E5.out.go hb6)
      have R6 := Lib.hid (Row.of_own hown6)
      have R7 := Lib.hid (Row.of_own E6.out.own)
      clear hown6 hb6 E5 HUC
      rw [← HL1.out]
      go_wp2_with fail
      refine (Same_c _ _ n6 _ _ (catB R k) (catB R k) w6 R6.out R7.out rfl).mono ?_
      rintro e _ ⟨rfl, q7, rfl⟩
      have E7 := Lib.hid (E6.out.go (below_drewN (Below.refl _ w6) q7))
      generalize w6.drewN q7 = w7 at *
      clear E6 R6 R7
      go_wp2_with fail
      refine (DoneB_c E7.out.wrt).mono ?_
      rintro e w8 ⟨A8, c8, rfl, hown8, hb8⟩
      have E8 := Lib.hid (E7.out.go hb8)
      have hll : ((len1 : Int) == (len1 : Int)) = true := by simp
      clear hown8 hb8
      go_wp2
      go_ret
      exact ⟨rfl, HB0.out.trans (E8.out.bel.mono HB0.out.size)⟩
theorem walk_BlockRows (w : World) (ht : Tabs w) (A : Option Addr) (n cap : Nat) (RA : Nat → Option Addr) (RL RC : Nat → Nat) (R : Nat → List F) (hM : MIn w A n cap RA RL RC R) (B : Option Addr) (m cb : Nat) (kl : List Int) (hk : IRow w B m .i64 kl) :
    Calls Tryz.prog 5 #[.slice A n cap, .slice B m cb] w fun e w' => e = .returned (.bool true) ∧ Below w.heap.size w w' := by
  by_cases hn0 : n = 0
  · have t1 : ((n : Int) == 0) = true := by rw [beq_iff_eq]; omega
    have HT := Lib.hid ht
    clear ht hM hk hn0
    go_enter Tryz.func5, Tryz.ntmps5
    go_wp2_with fail
    refine (alive14_c w HT.out).mono ?_
    rintro e w1 ⟨rfl, hb⟩
    go_wp2
    go_ret
    exact ⟨rfl, hb⟩
  · have t1 : ((n : Int) == 0) = false := by rw [beq_eq_false_iff_ne]; omega
    by_cases hn8 : n ≤ 8
    · by_cases hnm : n ≤ m
      · exact rows_main w ht A n cap RA RL RC R hM B m cb kl hk (by omega) hn8 hnm
      · have t2 : decide ((8 : Int) < (n : Int)) = false := decide_eq_false (by omega)
        have t3 : decide ((m : Int) < (n : Int)) = true := decide_eq_true (by omega)
        have t4 : decide (m < n) = true := decide_eq_true (by omega)
        have HT := Lib.hid ht
        clear ht hM hk hn0
        go_enter Tryz.func5, Tryz.ntmps5
        go_wp2_with fail
        refine (alive14_c w HT.out).mono ?_
        rintro e w1 ⟨rfl, hb⟩
        go_wp2
        go_ret
        exact ⟨rfl, hb⟩
    · have t2 : decide ((8 : Int) < (n : Int)) = true := decide_eq_true (by omega)
      have HT := Lib.hid ht
      clear ht hM hk hn0
      go_enter Tryz.func5, Tryz.ntmps5
      go_wp2_with fail
      refine (alive14_c w HT.out).mono ?_
      rintro e w1 ⟨rfl, hb⟩
      go_wp2
      go_ret
      exact ⟨rfl, hb⟩
end Go.Proofs.YthnbflkoipnakaaGreatDoor
