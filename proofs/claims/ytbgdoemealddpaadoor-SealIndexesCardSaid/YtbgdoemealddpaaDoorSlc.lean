/-
  SEALS: is a seal right: the program's. No conditions.
-/
import Derived.Test.YtbgdoemealddpaaDoorSlb
namespace Go.Proofs.YtbgdoemealddpaaDoor
open Go.RowKit
set_option maxRecDepth 100000
set_option linter.unusedVariables false

/-- the index is right -/
def rix (N K S B I : Int) : Bool := right23 N K S B && (decide (0 ≤ I) && decide (I < K))
set_option maxHeartbeats 2000000 in
theorem rightIndex_c {N K S B I : Int} (h : Wf4 N K S B) (A : Option Addr) (n c : Nat) (w : World) : Calls Tryd.prog 45 #[.agg #[.int .i64 N, .int .i64 K, .int .i64 S, .int .i64 B, .int .i64 I, .slice A n c]] w fun e w' => e = .returned (.bool (rix N K S B I)) ∧ Below w.heap.size w w' := by
  have hb := (Below.refl w.heap.size w).alloc (Nat.le_refl _) (.cells #[.int .i64 N, .int .i64 K, .int .i64 S, .int .i64 B, .int .i64 I, .slice A n c] 26)
  have hK := Blk.new w 26 #[.int .i64 N, .int .i64 K, .int .i64 S, .int .i64 B, .int .i64 I, .slice A n c]
  have z0 : (w.alloc (.cells #[.int .i64 N, .int .i64 K, .int .i64 S, .int .i64 B, .int .i64 I, .slice A n c] 26)).cell? ⟨w.heap.size, 0, none⟩ = some (.int .i64 N) := hK.cell 0
  have z1 : (w.alloc (.cells #[.int .i64 N, .int .i64 K, .int .i64 S, .int .i64 B, .int .i64 I, .slice A n c] 26)).cell? ⟨w.heap.size, 1, none⟩ = some (.int .i64 K) := hK.cell 1
  have z2 : (w.alloc (.cells #[.int .i64 N, .int .i64 K, .int .i64 S, .int .i64 B, .int .i64 I, .slice A n c] 26)).cell? ⟨w.heap.size, 2, none⟩ = some (.int .i64 S) := hK.cell 2
  have z3 : (w.alloc (.cells #[.int .i64 N, .int .i64 K, .int .i64 S, .int .i64 B, .int .i64 I, .slice A n c] 26)).cell? ⟨w.heap.size, 3, none⟩ = some (.int .i64 B) := hK.cell 3
  have HR := Lib.hid (Right_c h (w.alloc (.cells #[.int .i64 N, .int .i64 K, .int .i64 S, .int .i64 B, .int .i64 I, .slice A n c] 26)))
  have HB := Lib.hid hb
  have HK := Lib.hid hK
  unfold rix
  cases hr : right23 N K S B with
  | false =>
    rw [hr] at HR
    clear hr hb hK
    go_enter Tryd.func45, Tryd.ntmps45
    go_wp2_with (go_at_call 33; refine HR.out.mono ?_; rintro e W2 ⟨rfl, hb2⟩; have HB2 := Lib.hid (HB.out.trans (hb2.mono HB.out.size)); clear hb2)
    go_ret
    exact ⟨rfl, HB2.out⟩
  | true =>
    rw [hr] at HR
    clear hr hb hK
    by_cases h1 : 0 ≤ I
    · by_cases h2 : I < K
      · rw [decide_eq_true h1, decide_eq_true h2]
        go_enter Tryd.func45, Tryd.ntmps45
        go_wp2_with (go_at_call 33; refine HR.out.mono ?_; rintro e W2 ⟨rfl, hb2⟩; have HB2 := Lib.hid (HB.out.trans (hb2.mono HB.out.size)); have y1 : W2.cell? ⟨w.heap.size, 1, none⟩ = some (.int .i64 K) := (HK.out.below HK.out.lt hb2).cell 1; have y4 : W2.cell? ⟨w.heap.size, 4, none⟩ = some (.int .i64 I) := (HK.out.below HK.out.lt hb2).cell 4; clear hb2)
        go_ret
        exact ⟨by first | rfl | (show Ending.returned (.bool (decide _)) = _; exact ret_bool (decide_eq_true (by omega))), HB2.out⟩
      · rw [decide_eq_true h1, decide_eq_false h2]
        go_enter Tryd.func45, Tryd.ntmps45
        go_wp2_with (go_at_call 33; refine HR.out.mono ?_; rintro e W2 ⟨rfl, hb2⟩; have HB2 := Lib.hid (HB.out.trans (hb2.mono HB.out.size)); have y1 : W2.cell? ⟨w.heap.size, 1, none⟩ = some (.int .i64 K) := (HK.out.below HK.out.lt hb2).cell 1; have y4 : W2.cell? ⟨w.heap.size, 4, none⟩ = some (.int .i64 I) := (HK.out.below HK.out.lt hb2).cell 4; clear hb2)
        go_ret
        exact ⟨by first | rfl | (show Ending.returned (.bool (decide _)) = _; exact ret_bool (decide_eq_false (by omega))), HB2.out⟩
    · rw [decide_eq_false h1]
      go_enter Tryd.func45, Tryd.ntmps45
      go_wp2_with (go_at_call 33; refine HR.out.mono ?_; rintro e W2 ⟨rfl, hb2⟩; have HB2 := Lib.hid (HB.out.trans (hb2.mono HB.out.size)); have y1 : W2.cell? ⟨w.heap.size, 1, none⟩ = some (.int .i64 K) := (HK.out.below HK.out.lt hb2).cell 1; have y4 : W2.cell? ⟨w.heap.size, 4, none⟩ = some (.int .i64 I) := (HK.out.below HK.out.lt hb2).cell 4; clear hb2)
      go_ret
      exact ⟨rfl, HB2.out⟩
/-- a row has not as many sums -/
def unS (q n : Nat) (RL : Nat → Nat) : Bool := (List.range n).any fun r => !decide (RL r = q)
theorem unS_yes {q n r : Nat} {RL : Nat → Nat} (hr : r < n) (h : ¬ RL r = q) : unS q n RL = true := by
  unfold unS
  rw [List.any_eq_true]
  exact ⟨r, by simpa using hr, by simpa using h⟩
theorem unS_no {q n : Nat} {RL : Nat → Nat} (h : ∀ r, r < n → RL r = q) : unS q n RL = false := by
  unfold unS
  rw [List.any_eq_false]
  intro r hr
  have h9 := h r (by simpa using hr)
  simpa using h9
theorem unS_all {q n : Nat} {RL : Nat → Nat} (h : unS q n RL = false) : ∀ r, r < n → RL r = q := fun r hr => by
  apply Decidable.byContradiction
  intro e
  rw [unS_yes hr e] at h
  cases h
theorem unSC_c {w : World} (A : Option Addr) (m c q g : Nat) (hq : w.cell? ⟨g, 0, none⟩ = some (.int .i64 q)) (hm : m ≤ 9223372036854775807) :
    Calls Tryd.prog 44 #[.slice A m c, .pointer (some ⟨g, 0, none⟩)] w fun e w' => e = .returned (.bool (!decide (m = q))) ∧ w = w' := by
  have e0 : ((m : Int) != (q : Int)) = !decide (m = q) := by
    by_cases e : m = q
    · rw [e]; simp
    · rw [decide_eq_false e, bne_iff_ne.2 (by omega)]; rfl
  go_enter Tryd.func44, Tryd.ntmps44
  go_wp2
  go_ret
  exact ⟨rfl, rfl⟩
theorem GIn.rmax {w : World} {A : Option Addr} {n cap : Nat} {RA : Nat → Option Addr} {RL RC : Nat → Nat} {R : Nat → List G} (h : GIn w A n cap RA RL RC R) {r : Nat} (hr : r < n) : RL r ≤ 9223372036854775807 := (h.row r hr).max
set_option maxHeartbeats 1000000 in
theorem IndexS_c {w : World} {A : Option Addr} {n cap : Nat} {RA : Nat → Option Addr} {RL RC : Nat → Nat} {R : Nat → List G} (h : GIn w A n cap RA RL RC R) (q g : Nat) (hq : w.cell? ⟨g, 0, none⟩ = some (.int .i64 q)) :
    Calls Tryd.prog 55 #[.slice A n cap, .func (.func 44) #[] #[.pointer (some ⟨g, 0, none⟩)]] w fun e w' => ∃ x : Int, e = .returned (.int .i64 x) ∧ decide (0 ≤ x) = unS q n RL ∧ w = w' := by
  have hnm := h.nmax
  have H := Lib.hid h
  have HQ := Lib.hid hq
  clear h hq
  go_enter Tryd.func55, Tryd.ntmps55
  go_wp2
  go_loop [8] (fun i => ∃ k : Nat, k ≤ n ∧ i = .int .i64 k ∧ Hid (∀ r, r < k → RL r = q)) (fun i => n - (intOf i).toNat)
  case atStart => exact ⟨0, by omega, rfl, fun r h1 => by omega⟩
  case round =>
    obtain ⟨k, hk, rfl, hs⟩ := hrel
    by_cases hlt : k < n
    · have hkm : (k : Int) < n := by omega
      obtain ⟨b1, o1, hA, l1, q1⟩ := GIn.at_ H.out hlt
      by_cases hz : RL k = q
      · have hv := unSC_c (w := w) (RA k) (RL k) (RC k) q g HQ.out (H.out.rmax hlt)
        rw [decide_eq_true hz] at hv
        have HV := Lib.hid hv
        have HZ := Lib.hid hz
        clear hv hz
        subst hA
        go_wp2_with (go_at_call 44; refine HV.out.mono ?_; rintro e w' ⟨rfl, rfl⟩)
        go_round
        case rel =>
          refine ⟨k + 1, by omega, by go_num, fun r h1 => ?_⟩
          rcases Nat.lt_or_ge r k with h3 | h3
          · exact hs.out r h3
          · rw [show r = k by omega]; exact HZ.out
        case measure => simp [intOf]; omega
      · have hv := unSC_c (w := w) (RA k) (RL k) (RC k) q g HQ.out (H.out.rmax hlt)
        rw [decide_eq_false hz] at hv
        have HV := Lib.hid hv
        have HZ := Lib.hid hz
        clear hv hz
        subst hA
        go_wp2_with (go_at_call 44; refine HV.out.mono ?_; rintro e w' ⟨rfl, rfl⟩)
        go_ret
        refine ⟨_, rfl, ?_, rfl⟩
        rw [unS_yes hlt HZ.out]
        simp
    · obtain rfl : k = n := by omega
      go_wp2
      go_ret
      refine ⟨_, rfl, ?_, rfl⟩
      rw [unS_no hs.out]
      rfl
theorem ContainsS_c {w : World} {A : Option Addr} {n cap : Nat} {RA : Nat → Option Addr} {RL RC : Nat → Nat} {R : Nat → List G} (h : GIn w A n cap RA RL RC R) (q g : Nat) (hq : w.cell? ⟨g, 0, none⟩ = some (.int .i64 q)) :
    Calls Tryd.prog 46 #[.slice A n cap, .func (.func 44) #[] #[.pointer (some ⟨g, 0, none⟩)]] w fun e w' => e = .returned (.bool (unS q n RL)) ∧ w = w' := by
  have HI := Lib.hid (IndexS_c h q g hq)
  clear h hq
  go_enter Tryd.func46, Tryd.ntmps46
  go_wp2_with (go_at_call 55; refine HI.out.mono ?_; rintro e w' ⟨x, rfl, hx, rfl⟩; have HX := Lib.hid hx; clear hx)
  go_ret
  exact ⟨by rw [HX.out]; rfl, rfl⟩
/-- a seal is right -/
def slR (N K S B I : Int) (n : Nat) (RL : Nat → Nat) : Bool := rix N K S B I && (decide ((n : Int) = N + K) && !unS (blk23 N K S B) n RL)
set_option maxHeartbeats 4000000 in
theorem right_c {N K S B I : Int} (h : Wf4 N K S B) {w : World} {A : Option Addr} {n cap : Nat} {RA : Nat → Option Addr} {RL RC : Nat → Nat} {R : Nat → List G} (hG : GIn w A n cap RA RL RC R) : Calls Tryd.prog 23 #[.agg #[.int .i64 N, .int .i64 K, .int .i64 S, .int .i64 B, .int .i64 I, .slice A n cap]] w fun e w' => e = .returned (.bool (slR N K S B I n RL)) ∧ Below w.heap.size w w' := by
  have hb := (Below.refl w.heap.size w).alloc (Nat.le_refl _) (.cells #[.int .i64 N, .int .i64 K, .int .i64 S, .int .i64 B, .int .i64 I, .slice A n cap] 26)
  have hK := Blk.new w 26 #[.int .i64 N, .int .i64 K, .int .i64 S, .int .i64 B, .int .i64 I, .slice A n cap]
  have HB := Lib.hid hb
  have HK := Lib.hid hK
  have HL := Lib.hid (BlocksU_c h)
  have HI := Lib.hid (rightIndex_c (I := I) h A n cap)
  have HG := Lib.hid hG
  have hnm := hG.nmax
  have HV := Lib.hid (show slR N K S B I n RL = (rix N K S B I && (decide ((n : Int) = N + K) && !unS (blk23 N K S B) n RL)) from rfl)
  obtain ⟨q, hq⟩ : ∃ q, q = blk23 N K S B := ⟨_, rfl⟩
  rw [← hq] at HL HV
  have hqb : q ≤ 33554440 := by rw [hq]; exact blk23_le N K S B
  clear hq hb hK hG
  have z0 := (HK.out.cell 0).trans (show _ = some (Value.int .i64 N) from rfl)
  have z1 := (HK.out.cell 1).trans (show _ = some (Value.int .i64 K) from rfl)
  have z2 := (HK.out.cell 2).trans (show _ = some (Value.int .i64 S) from rfl)
  have z3 := (HK.out.cell 3).trans (show _ = some (Value.int .i64 B) from rfl)
  go_enter Tryd.func23, Tryd.ntmps23
  go_wp2_with fail
  refine (HL.out _).mono ?_
  rintro e W2 ⟨rfl, hb2⟩
  have hB2 := HB.out.trans (hb2.mono HB.out.size)
  have hK2 := HK.out.below HK.out.lt hb2
  have hb3 : Below W2.heap.size W2 (W2.alloc (.cells #[.int .i64 q] 3)) := (Below.refl _ _).alloc (Nat.le_refl _) _
  have HK3 := Lib.hid (hK2.below hK2.lt hb3)
  have HB3 := Lib.hid (hB2.trans (hb3.mono hB2.size))
  have HQ3 := Lib.hid (Blk.new W2 3 #[.int .i64 q])
  clear hb2 hb3 hB2 hK2 z0 z1 z2 z3 HB HK HL
  have hsz3 : W2.heap.size < (W2.alloc (.cells #[.int .i64 q] 3)).heap.size := HQ3.out.lt
  have hGI := HG.out.below HB3.out
  have z0 := (HK3.out.cell 0).trans (show _ = some (Value.int .i64 N) from rfl)
  have z1 := (HK3.out.cell 1).trans (show _ = some (Value.int .i64 K) from rfl)
  have z2 := (HK3.out.cell 2).trans (show _ = some (Value.int .i64 S) from rfl)
  have z3 := (HK3.out.cell 3).trans (show _ = some (Value.int .i64 B) from rfl)
  have z4 := (HK3.out.cell 4).trans (show _ = some (Value.int .i64 I) from rfl)
  have z5 := (HK3.out.cell 5).trans (show _ = some (Value.slice A n cap) from rfl)
  go_wp2_with fail
  refine (HI.out _).mono ?_
  rintro e W4 ⟨rfl, hb4⟩
  have HB4 := Lib.hid (HB3.out.trans (hb4.mono HB3.out.size))
  have HK4 := Lib.hid (HK3.out.below HK3.out.lt hb4)
  have HQ4 := Lib.hid (HQ3.out.below hsz3 hb4)
  have HG4 := Lib.hid (hGI.below hb4)
  clear z0 z1 z2 z3 z4 z5 hb4 HK3 HQ3 HG hGI HB3 hsz3
  have z0 := (HK4.out.cell 0).trans (show _ = some (Value.int .i64 N) from rfl)
  have z1 := (HK4.out.cell 1).trans (show _ = some (Value.int .i64 K) from rfl)
  have z5 := (HK4.out.cell 5).trans (show _ = some (Value.slice A n cap) from rfl)
  have HC := Lib.hid (ContainsS_c HG4.out q W2.heap.size (HQ4.out.cell 0))
  cases hr : rix N K S B I with
  | false =>
    rw [hr] at HV
    clear hr
    go_wp2
    go_ret
    exact ⟨ret_bool HV.out.symm, HB4.out⟩
  | true =>
    have hr1 : right23 N K S B = true := by
      unfold rix at hr
      exact (Bool.and_eq_true_iff.1 hr).1
    obtain ⟨n', k', s', b', rfl, rfl, rfl, rfl, hn1, hnk, _⟩ := right23_nat hr1
    have s1 : IntKind.i64.wrap ((n' : Int) + (k' : Int)) = (n' : Int) + k' := IntWalk.i64_in _ (by omega)
    rw [hr] at HV
    clear hr hr1
    by_cases hn : (n : Int) = (n' : Int) + k'
    · have en : ((n : Int) == (n' : Int) + (k' : Int)) = true := by rw [beq_iff_eq]; exact hn
      rw [decide_eq_true hn] at HV
      obtain ⟨u, hu⟩ : ∃ u, u = unS q n RL := ⟨_, rfl⟩
      rw [← hu] at HC HV
      clear hu hn
      go_wp2_with (go_at_call 46; refine HC.out.mono ?_; rintro e w' ⟨rfl, rfl⟩)
      go_ret
      exact ⟨ret_bool HV.out.symm, HB4.out⟩
    · have en : ((n : Int) == (n' : Int) + (k' : Int)) = false := by rw [beq_eq_false_iff_ne]; exact hn
      rw [decide_eq_false hn] at HV
      clear hn HC
      go_wp2
      go_ret
      exact ⟨ret_bool HV.out.symm, HB4.out⟩
end Go.Proofs.YtbgdoemealddpaaDoor
