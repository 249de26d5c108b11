/-
  THE DOCUMENT's OWN Same OF ROWS OF ROWS, AND SameInts: of the same they say true. No conditions.
-/
import Derived.Test.YtciljflnhleocaaLaw03b
namespace Go.Proofs.Ytciljflnhleocaa
open Go.RowKit
set_option maxRecDepth 100000
set_option linter.unusedVariables false

/-- a row of values reads as f -/
def VRow (w : World) (A : Option Addr) (n : Nat) (f : Nat → Value) : Prop := n ≤ maxLen ∧ (0 < n → ∃ b off, A = some ⟨b, off, none⟩ ∧ b < w.heap.size ∧ ∀ i, i < n → w.cell? ⟨b, off + i, none⟩ = some (f i))
section
variable {w w' : World} {A : Option Addr} {n : Nat} {f : Nat → Value}
theorem VRow.below (h : VRow w A n f) (hb : Below w.heap.size w w') : VRow w' A n f := ⟨h.1, fun hn => by
  obtain ⟨b, off, e, hl, hc⟩ := h.2 hn
  exact ⟨b, off, e, by have := hb.size; omega, fun i hi => (hb.cell (p := ⟨b, off + i, none⟩) hl).trans (hc i hi)⟩⟩
theorem VRow.drewN (h : VRow w A n f) (q : Nat) : VRow (w.drewN q) A n f := h
theorem VRow.at_ (h : VRow w A n f) {k : Nat} (hk : k < n) : ∃ b off, A = some ⟨b, off, none⟩ ∧ b < w.heap.size ∧ w.cell? ⟨b, off + k, none⟩ = some (f k) := by
  obtain ⟨b, off, e, hl, hc⟩ := h.2 (by omega)
  exact ⟨b, off, e, hl, hc k hk⟩
theorem VRow.ofOwn {base c : Nat} {e : TypeId} {xs : List Value} (h : w.ownsRow base e 1 (.slice A n c) n xs) (hn : n ≤ maxLen) : VRow w A n (fun i => xs.getD i undef) := ⟨hn, fun h0 => by
  obtain ⟨g, cap, hv, _, hg⟩ := h.form h0
  injection hv with hv1 _ hv3
  subst hv1 hv3
  refine ⟨g, 0, rfl, hg, fun i hi => ?_⟩
  rw [Nat.zero_add]
  exact (RowV.own h).cell hi⟩
theorem pivC_at (ps : List Nat) {i : Nat} (h : i < ps.length) : (pivC ps).getD i undef = .int .i64 ((ps[i] : Nat) : Int) := by
  unfold pivC
  rw [List.getD_eq_getElem?_getD, List.getElem?_map, List.getElem?_eq_getElem h]
  rfl
end
set_option maxHeartbeats 1000000 in
theorem SameInts_c (A B : Option Addr) (n ca cb : Nat) (ps : List Nat) (w : World) (ha : VRow w A n fun i => (pivC ps).getD i undef) (hb : VRow w B n fun i => (pivC ps).getD i undef) (hl : n = ps.length) :
    Calls Try.prog 17 #[.slice A n ca, .slice B n cb] w fun e w' => e = .returned (.bool true) ∧ ∃ q, w' = w.drewN q := by
  have hm := ha.1
  unfold maxLen at hm
  have HL := Lib.hid hl
  have hnn : ((n : Int) != (n : Int)) = false := by simp
  clear hl
  go_enter Try.func17, Try.ntmps17
  go_wp2
  go_loopw [5] (fun i wr => ∃ k q : Nat, k ≤ n ∧ i = .int .i64 k ∧ Hid (wr = w.drewN q)) (fun i _ => n - (intOf i).toNat)
  case atStart => exact ⟨0, 0, by omega, rfl, rfl⟩
  case round =>
    obtain ⟨k, q, hk, rfl, hw⟩ := hrel
    by_cases hlt : k < n
    · have ha1 := ha.drewN q
      have hb1 := hb.drewN q
      rw [← hw.out] at ha1 hb1
      obtain ⟨b1, o1, rfl, _, h1⟩ := ha1.at_ hlt
      obtain ⟨b2, o2, rfl, _, h2⟩ := hb1.at_ hlt
      rw [pivC_at ps (by rw [← HL.out]; exact hlt)] at h1 h2
      generalize ps[k]'(by rw [← HL.out]; exact hlt) = p at h1 h2
      have hpp : ((p : Int) != (p : Int)) = false := by simp
      have hkn : (k : Int) < n := by omega
      go_wp2
      go_region_held3 (fun w' => w'.cell? ⟨b1, o1 + k, none⟩ = some (.int .i64 p) ∧ w'.cell? ⟨b2, o2 + k, none⟩ = some (.int .i64 p)) (go_keep) (fail)
      go_wp2
      go_roundw
      case rel => exact ⟨k + 1, q + 1, by omega, by go_num, by unfold Hid; rw [hw.out]; rfl⟩
      case measure => simp [intOf]; omega
    · have hkn : ¬ (k : Int) < n := by omega
      go_wp2
      go_ret
      exact ⟨rfl, q, hw.out⟩
set_option maxHeartbeats 1000000 in
theorem RefSame_c {w : World} {A B : Option Addr} {n ca cb : Nat} {RA RB : Nat → Option Addr} {RL RC RL' RC' : Nat → Nat} {R R' : Nat → List F} (h : MIn w A n ca RA RL RC R) (h' : MIn w B n cb RB RL' RC' R') (he : ∀ r, r < n → R r = R' r) :
    Calls Try.prog 16 #[.slice A n ca, .slice B n cb] w fun e w' => e = .returned (.bool true) ∧ ∃ q, w' = w.drewN q := by
  have hm := h.nmax
  have HE := Lib.hid he
  have hnn : ((n : Int) != (n : Int)) = false := by simp
  clear he
  go_enter Try.func16, Try.ntmps16
  go_wp2
  go_loopw [5] (fun i wr => ∃ k q : Nat, k ≤ n ∧ i = .int .i64 k ∧ Hid (wr = w.drewN q)) (fun i _ => n - (intOf i).toNat)
  case atStart => exact ⟨0, 0, by omega, rfl, rfl⟩
  case round =>
    obtain ⟨k, q, hk, rfl, hw⟩ := hrel
    by_cases hlt : k < n
    · have ha1 := h.drewN q
      have hb1 := h'.drewN q
      rw [← hw.out] at ha1 hb1
      obtain ⟨b1, o1, rfl, _, h1⟩ := ha1.at_ hlt
      obtain ⟨b2, o2, rfl, _, h2⟩ := hb1.at_ hlt
      have hr1 := (ha1.row k hlt).row
      have hr2 := (hb1.row k hlt).row
      have e := HE.out k hlt
      have hl : RL' k = RL k := by rw [← hr1.len, ← hr2.len, e]
      rw [hl] at h2 hr2
      rw [← e] at hr2
      clear e hl
      have hkn : (k : Int) < n := by omega
      have HC : Hid (∀ q2, Calls Try.prog 19 #[.slice (RA k) (RL k) (RC k), .slice (RB k) (RL k) (RC' k)] (wr.drewN q2) fun e w' => e = .returned (.bool true) ∧ ∃ m, w' = (wr.drewN q2).drewN m) := fun q2 =>
        Same_c _ _ _ _ _ _ _ _ (hr1.drewN q2) (hr2.drewN q2) rfl
      clear ha1 hb1 hr1 hr2
      go_wp2
      go_region_held3 (fun w' => w'.cell? ⟨b1, o1 + k, none⟩ = some (.slice (RA k) (RL k) (RC k)) ∧ w'.cell? ⟨b2, o2 + k, none⟩ = some (.slice (RB k) (RL k) (RC' k))) (go_keep)
        ((go_at_call 19; refine (HC.out 1).mono ?_; rintro e w' ⟨rfl, q2, rfl⟩))
      go_wp2
      go_roundw
      case rel => exact ⟨k + 1, q + (1 + q2), by omega, by go_num, by unfold Hid; rw [hw.out, World.drewN_drewN]⟩
      case measure => simp [intOf]; omega
    · have hkn : ¬ (k : Int) < n := by omega
      go_wp2
      go_ret
      exact ⟨rfl, q, hw.out⟩
end Go.Proofs.Ytciljflnhleocaa
