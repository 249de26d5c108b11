/-
  VOLUMES: the first volumes: the document's Row. Tables of at most 2^20 slots.
-/
import Derived.Test.YtfjpbbejhegcjaaVlg
import Derived.Test.YtfjpbbejhegcjaaVlh
namespace Go.Proofs.Ytfjpbbejhegcjaa
open Go.RowKit
set_option maxRecDepth 100000
set_option linter.unusedVariables false

/-- values told by the index -/
def vsV (f : Nat → Value) (n : Nat) : List Value := (List.range n).map f
theorem vsV_length (f : Nat → Value) (n : Nat) : (vsV f n).length = n := by simp [vsV]
theorem vsV_at (f : Nat → Value) {n i : Nat} (h : i < n) : (vsV f n)[i]? = some (f i) := by simp [vsV, h]
theorem vsV_snoc (f : Nat → Value) (n : Nat) : vsV f (n + 1) = vsV f n ++ [f n] := by
  unfold vsV
  rw [List.range_succ, List.map_append]
  rfl
def slV (RA : Nat → Option Addr) (RL RC : Nat → Nat) : Nat → Value := fun r => .slice (RA r) (RL r) (RC r)
theorem min_ownV {w : World} {base g n c : Nat} {RA : Nat → Option Addr} {RL RC : Nat → Nat} {R : Nat → List F} (h : w.ownsRow base 25 1 (.slice (some ⟨g, 0, none⟩) n c) n (vsV (slV RA RL RC) n)) (hr : ∀ r, r < n → RowIn w (RA r) (RL r) (RC r) (R r)) : MIn w (some ⟨g, 0, none⟩) n c RA RL RC R := by
  obtain ⟨A, c', e, ⟨h1, h2⟩, _⟩ := own_shape2 h
  injection e with _ _ e
  subst e
  exact ⟨h1, h2, fun _ => ⟨g, 0, rfl, (h.lt g rfl).2, fun r hr => by
    rw [Nat.zero_add, h.cellAt r (by omega), vsV_at _ hr]
    rfl⟩, hr⟩
theorem rwG_step {TH : Nat → Bool} {RL : Nat → Nat} {m k : Nat} (h : k < m) (hs : ∀ s, s < k → badS (TH s) (RL s) = false) (hb : badS (TH k) (RL k) = true) : rwG TH RL m 0 = if TH k = false then 52 else 20 := rwG_bad hb m 0 (Nat.zero_le _) (by omega) fun s _ h2 => hs s h2
set_option maxHeartbeats 4000000 in
theorem RRowV_c {w : World} {A : Option Addr} {N cap : Nat} {TH : Nat → Bool} {RA : Nat → Option Addr} {RL RC : Nat → Nat} {R : Nat → List F} (h : TIn w A N cap TH RA RL RC R) (hN : N ≤ 1048576) (n : Int) (hw : (Lit.int .i64 n).wf = true) :
    Calls Try.prog 7 #[.slice A N cap, .int .i64 n] w fun e w' => RwR w TH RL R N n e w' := by
  obtain ⟨i0, hi, hz0, hz1, hz2⟩ := info_parts info_bs
  have H := Lib.hid h
  clear h hw
  by_cases h1 : n < 1
  · have HE : Hid (rwE TH RL N n = 1) := if_pos (.inl h1)
    go_enter Try.func7, Try.ntmps7
    go_wp2
    go_ret2
    exact RwR.no 1 HE.out (by decide) rfl (Below.refl _ _)
  · obtain ⟨n0, rfl⟩ : ∃ n0 : Nat, n = (n0 : Int) := ⟨n.toNat, by omega⟩
    have i1 : ¬ ((n0 : Int) < 1) := h1
    by_cases h2 : (N : Int) < (n0 : Int)
    · have HE : Hid (rwE TH RL N (n0 : Int) = 1) := if_pos (.inr h2)
      go_enter Try.func7, Try.ntmps7
      go_wp2
      go_ret2
      exact RwR.no 1 HE.out (by decide) rfl (Below.refl _ _)
    · have HE : Hid (rwE TH RL N (n0 : Int) = rwG TH RL n0 0) := by
        unfold Hid rwE
        rw [if_neg (by omega)]
        rfl
      have hnN : n0 ≤ N := by omega
      have hn1 : 1 ≤ n0 := by omega
      go_enter Try.func7, Try.ntmps7
      go_wp2
      go_loopw [6, 7] (fun v iv wr => ∃ k : Nat, k ≤ n0 ∧ iv = .int .i64 k ∧ ∃ g c, v = .slice (some ⟨g, 0, none⟩) k c ∧ Hid (wr.ownsRow w.heap.size 25 1 (.slice (some ⟨g, 0, none⟩) k c) k (vsV (slV RA RL RC) k)) ∧ Hid (∀ s, s < k → badS (TH s) (RL s) = false) ∧ Hid (Below w.heap.size w wr)) (fun _ iv _ => n0 - (intOf iv).toNat)
      case atStart => exact ⟨0, by omega, rfl, _, 0, rfl, World.ownsRow_made (e := 25) (size := 1) w #[] 0 (Nat.le_refl _) (Nat.zero_le _) rfl, fun s hs => by omega, (Below.refl _ _).alloc (Nat.le_refl _) _⟩
      case round =>
        obtain ⟨k, hk, rfl, g, c, rfl, HO, HS, HB⟩ := hrel
        by_cases hlt : k < n0
        · have hki : (k : Int) < (n0 : Int) := by omega
          have hkN : (k : Int) < (N : Int) := by omega
          obtain ⟨b1, o1, rfl, _, q0, q1⟩ := (H.out.below HB.out).at_ (r := k) (by omega)
          cases hth : TH k with
          | false =>
            have hb : badS (TH k) (RL k) = true := by rw [hth]; rfl
            have HE2 : Hid (rwE TH RL N (n0 : Int) = 52) := by
              unfold Hid
              rw [HE.out, rwG_step hlt HS.out hb, if_pos hth]
            rw [hth] at q0
            go_wp2
            go_ret2
            exact RwR.no 52 HE2.out (by decide) rfl HB.out
          | true =>
            rw [hth] at q0
            by_cases h0 : RL k = 0
            · have hb : badS (TH k) (RL k) = true := by rw [hth, h0]; rfl
              have HE2 : Hid (rwE TH RL N (n0 : Int) = 20) := by
                unfold Hid
                rw [HE.out, rwG_step hlt HS.out hb, if_neg (by rw [hth]; decide)]
              have e0 : ((RL k : Int) == 0) = true := by rw [beq_iff_eq]; omega
              clear h0 hb
              go_wp2
              go_ret2
              exact RwR.no 20 HE2.out (by decide) rfl HB.out
            · have e0 : ((RL k : Int) == 0) = false := by rw [beq_eq_false_iff_ne]; omega
              have hs2 : Hid (∀ s, s < k + 1 → badS (TH s) (RL s) = false) := fun s hs => by
                by_cases e : s = k
                · subst e
                  rw [hth]
                  simp [badS, h0]
                · exact HS.out s (by omega)
              have hsn := Lib.hid (vsV_snoc (slV RA RL RC) k)
              clear h0
              go_wp2_with ((at_builtin; refine wpList_append_lies _ rfl (.tmp 35) (.tmp 41) 24 rfl w.heap.size 25 i0 (.slice none 0 0) 1 24 Try.underlying24 hi hz0 hz1 hz2 rfl (by decide) (.slice (some ⟨g, 0, none⟩) k c) k (vsV (slV RA RL RC) k) rfl (HO.out.alloc _) ⟨wr.heap.size, 0, none⟩ 1 1 [.slice (RA k) (RL k) (RC k)] rfl rfl (one_cell wr _ _) (by intro u hu; simp at hu; subst hu; rfl) (by omega) (by unfold maxLen; omega) (by omega) (by have := HB.out.size; simp; omega) (wr.heap.size + 1) (by simp) ?_; intro g5 c5 w5 hown5 hg5 hat5 hlt5))
              have HO5 : Hid (w5.ownsRow w.heap.size 25 1 (.slice (some ⟨g5, 0, none⟩) (k + 1) c5) (k + 1) (vsV (slV RA RL RC) (k + 1))) := by
                unfold Hid
                rw [hsn.out]
                exact hown5
              have HB5 : Hid (Below w.heap.size w w5) := (HB.out.alloc HB.out.size _).grown hg5 (by have := HB.out.size; simp; omega) (fun x hx => (HO.out.lt x hx).1)
              clear hown5 hg5 hat5 hlt5 HO
              go_wp2
              go_roundw
              case rel => exact ⟨k + 1, by omega, by go_num, g5, c5, rfl, HO5, hs2, HB5⟩
              case measure => simp [intOf]; omega
        · obtain rfl : n0 = k := by omega
          have HE2 : Hid (rwE TH RL N (n0 : Int) = 0) := by
            unfold Hid
            rw [HE.out, rwG_ok n0 0 fun s _ h2 => HS.out s (by omega)]
          have HMI := Lib.hid (min_ownV HO.out fun r hr => (H.out.below HB.out).row r (by omega))
          go_wp2
          go_ret2
          exact RwR.yes n0 _ _ RA RC HE2.out rfl hn1 hnN rfl HMI.out HB.out
end Go.Proofs.Ytfjpbbejhegcjaa
