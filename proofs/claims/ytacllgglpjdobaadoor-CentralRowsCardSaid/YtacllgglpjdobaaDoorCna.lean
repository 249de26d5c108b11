/-
  RECORDS OF THE DIRECTORY: rows of cells; numbers that do not fit: slices.IndexFunc, slices.DeleteFunc with central's own closure, tooGreat. No conditions.
-/
import Derived.Test.YtacllgglpjdobaaDoorLoca
import Derived.Lib.SliceRun
namespace Go.Proofs.YtacllgglpjdobaaDoor
open Go.RowKit
set_option maxRecDepth 100000
set_option linter.unusedVariables false

/-- numbers in a row -/
def uv (zs : List Nat) : List Value := zs.map fun z => .int .u64 (z : Nat)
theorem uv_length (zs : List Nat) : (uv zs).length = zs.length := by simp [uv]
def zg (zs : List Nat) (i : Nat) : Nat := zs.getD i 0
theorem zg_lt {zs : List Nat} {i : Nat} (h : i < zs.length) : zg zs i = zs[i] := by simp [zg, h]
theorem uv_at {zs : List Nat} {i : Nat} (h : i < zs.length) : (uv zs)[i]? = some (.int .u64 (zg zs i : Nat)) := by simp [uv, zg, h]
theorem uv_set (zs : List Nat) (i z : Nat) : (uv zs).set i (.int .u64 (z : Nat)) = uv (zs.set i z) := by simp [uv, List.map_set]
/-- those that do not fit -/
def fl (zs : List Nat) : List Nat := zs.filter fun z => decide (4294967295 ≤ z)
theorem fl_all {zs : List Nat} (h : ∀ r, r < zs.length → 4294967295 ≤ zg zs r) : fl zs = zs := by
  unfold fl
  rw [List.filter_eq_self]
  intro z hz
  obtain ⟨i, hi, rfl⟩ := List.getElem_of_mem hz
  have h1 := h i hi
  rw [zg_lt hi] at h1
  exact decide_eq_true h1
theorem fl_take {zs : List Nat} {j : Nat} (hj : j < zs.length) : fl (zs.take (j + 1)) = fl (zs.take j) ++ if 4294967295 ≤ zg zs j then [zg zs j] else [] := by
  rw [List.take_succ_eq_append_getElem hj]
  unfold fl
  rw [List.filter_append, zg_lt hj]
  congr 1
  by_cases e : 4294967295 ≤ zs[j]
  · rw [if_pos e]; simp [e]
  · rw [if_neg e]; simp [e]
theorem below_setCells {B g : Nat} {w0 : World} (hg : B ≤ g) : ∀ (l : List Value) (o : Nat) (w : World), Below B w0 w → Below B w0 (w.setCells g o l)
  | [], _, _, h => h
  | v :: r, o, w, h => below_setCells hg r (o + 1) _ (h.setCell (show B ≤ (⟨g, o, none⟩ : Addr).block from hg) v)
theorem size_setCellsA (g : Nat) : ∀ (l : List Value) (o : Nat) (w : World), (w.setCells g o l).heap.size = w.heap.size
  | [], _, _ => rfl
  | v :: r, o, w => (size_setCellsA g r (o + 1) _).trans (by simp)
theorem closeU_c (z : Nat) (w : World) : Calls Tryd.prog 60 #[.int .u64 (z : Nat)] w fun e w' => e = .returned (.bool (decide (z < 4294967295))) ∧ w = w' := by
  by_cases h : z < 4294967295
  · have hi : (z : Int) < 4294967295 := by omega
    rw [decide_eq_true h]
    clear h
    go_enter Tryd.func60, Tryd.ntmps60
    go_wp2
    go_ret
    exact ⟨by simp, rfl⟩
  · have hi : ¬ (z : Int) < 4294967295 := by omega
    rw [decide_eq_false h]
    clear h
    go_enter Tryd.func60, Tryd.ntmps60
    go_wp2
    go_ret
    exact ⟨by simp, rfl⟩
/-- where the first one stands that fits -/
def IxU (zs : List Nat) (i : Int) : Prop := (i = -1 ∧ ∀ r, r < zs.length → 4294967295 ≤ zg zs r) ∨ ∃ k : Nat, k < zs.length ∧ i = k ∧ zg zs k < 4294967295 ∧ ∀ r, r < k → 4294967295 ≤ zg zs r
set_option maxHeartbeats 1000000 in
theorem IndexU_c {w : World} {base g n c : Nat} {zs : List Nat} (h : w.ownsRow base 25 1 (.slice (some ⟨g, 0, none⟩) n c) n (uv zs)) (hn : zs.length = n) (hn9 : n ≤ 1000) :
    Calls Tryd.prog 68 #[.slice (some ⟨g, 0, none⟩) n c, .func (.func 60) #[] #[]] w fun e w' => ∃ i : Int, e = .returned (.int .i64 i) ∧ w = w' ∧ IxU zs i := by
  have HO := Lib.hid h
  have HN := Lib.hid hn
  clear h hn
  go_enter Tryd.func68, Tryd.ntmps68
  go_wp2
  go_loop [8] (fun i => ∃ k : Nat, k ≤ n ∧ i = .int .i64 k ∧ Hid (∀ r, r < k → 4294967295 ≤ zg zs r)) (fun i => n - (intOf i).toNat)
  case atStart => exact ⟨0, by omega, rfl, fun r h1 => by omega⟩
  case round =>
    obtain ⟨k, hk, rfl, hs⟩ := hrel
    by_cases hlt : k < n
    · have hkm : (k : Int) < n := by omega
      have hk0 : (0 : Int) ≤ (k : Int) := by omega
      have q1 := (HO.out.cellAt k (by omega)).trans (uv_at (by rw [HN.out]; exact hlt))
      have HV := Lib.hid (closeU_c (zg zs k))
      by_cases hz : zg zs k < 4294967295
      · have hd : decide (zg zs k < 4294967295) = true := decide_eq_true hz
        rw [hd] at HV
        have HZ := Lib.hid hz
        clear hz hd
        go_wp2_with (go_at_call 60; refine (HV.out _).mono ?_; rintro e w' ⟨rfl, rfl⟩)
        go_ret
        exact ⟨_, rfl, rfl, .inr ⟨k, by rw [HN.out]; exact hlt, rfl, HZ.out, hs.out⟩⟩
      · have hd : decide (zg zs k < 4294967295) = false := decide_eq_false hz
        rw [hd] at HV
        have HZ := Lib.hid (Nat.not_lt.1 hz)
        clear hz hd
        go_wp2_with (go_at_call 60; refine (HV.out _).mono ?_; rintro e w' ⟨rfl, rfl⟩)
        go_round
        case rel =>
          refine ⟨k + 1, by omega, by go_num, fun r h1 => ?_⟩
          rcases Nat.lt_or_ge r k with h3 | h3
          · exact hs.out r h3
          · rw [show r = k by omega]; exact HZ.out
        case measure => simp [intOf]; omega
    · obtain rfl : k = n := by omega
      have hkm : ¬ (k : Int) < k := by omega
      go_wp2
      go_ret
      exact ⟨-1, rfl, rfl, .inl ⟨rfl, fun r h1 => hs.out r (by rw [← HN.out]; exact h1)⟩⟩
theorem zero_u64 (w : World) : (zeroValue 25).run Tryd.prog w = .ok (.int .u64 0) w := by kernel_rfl
theorem wfU64c (k : Nat) (h : k < two64) : (Lit.int .u64 (k : Int)).wf = true := by
  unfold two64 at h
  simp [Lit.wf, IntKind.min, IntKind.max, IntKind.bits, IntKind.signed]
  omega
/-- a row of numbers, part of it turned -/
structure DlS (w0 w : World) (B base g n c : Nat) (zs xs : List Nat) (i j : Nat) : Prop where
  own : w.ownsRow base 25 1 (.slice (some ⟨g, 0, none⟩) n c) n (uv xs)
  len : xs.length = n
  ij : i < j
  done : xs.take i = fl (zs.take j)
  rest : ∀ r, j ≤ r → r < n → zg xs r = zg zs r
  bel : Below B w0 w
theorem DlS.skip {w0 w : World} {B base g n c : Nat} {zs xs : List Nat} {i j : Nat} (h : DlS w0 w B base g n c zs xs i j) (hz : zs.length = n) (hj : j < n) (hl : zg zs j < 4294967295) : DlS w0 w B base g n c zs xs i (j + 1) :=
  ⟨h.own, h.len, by have := h.ij; omega, by rw [fl_take (by omega), if_neg (by omega), List.append_nil]; exact h.done, fun r h1 h2 => h.rest r (by omega) h2, h.bel⟩
theorem DlS.keep {w0 w : World} {B base g n c : Nat} {zs xs : List Nat} {i j : Nat} (h : DlS w0 w B base g n c zs xs i j) (hz : zs.length = n) (hj : j < n) (hl : ¬ zg zs j < 4294967295) (hg : B ≤ g) : DlS w0 (w.setCell ⟨g, i, none⟩ (.int .u64 (zg zs j : Nat))) B base g n c zs (xs.set i (zg zs j)) (i + 1) (j + 1) := by
  have hij := h.ij
  have hlen := h.len
  refine ⟨by rw [← uv_set]; exact (h.own.stored i _).1, by rw [List.length_set]; exact hlen, by omega, ?_, fun r h1 h2 => ?_, h.bel.setCell (show B ≤ (⟨g, i, none⟩ : Addr).block from hg) _⟩
  · rw [fl_take (by omega), if_pos (by omega), ← h.done, List.take_succ_eq_append_getElem (by rw [List.length_set]; omega), List.take_set_of_le (Nat.le_refl _), List.getElem_set_self]
  · rw [← h.rest r (by omega) h2]
    unfold zg
    rw [List.getD_eq_getElem?_getD, List.getD_eq_getElem?_getD, List.getElem?_set_ne (by omega)]
    simp
set_option maxHeartbeats 2000000 in
theorem DeleteU_c {w : World} {B base g n c : Nat} {zs : List Nat} (h : w.ownsRow base 25 1 (.slice (some ⟨g, 0, none⟩) n c) n (uv zs)) (hn : zs.length = n) (hn9 : n ≤ 1000) (hw : ∀ z ∈ zs, z < two64) (hg : B ≤ g) (hB : B ≤ w.heap.size) :
    Calls Tryd.prog 59 #[.slice (some ⟨g, 0, none⟩) n c, .func (.func 60) #[] #[]] w fun e w' => e = .returned (.slice (some ⟨g, 0, none⟩) (fl zs).length c) ∧ IRow w' (some ⟨g, 0, none⟩) (fl zs).length .u64 ((fl zs).map fun (z : Nat) => (z : Int)) ∧ Below B w w' := by
  have hgl := (h.lt g rfl).2
  have HI := Lib.hid (IndexU_c h hn hn9)
  have HO := Lib.hid h
  have HN := Lib.hid hn
  have HW := Lib.hid hw
  have hcap : n ≤ c ∧ c ≤ maxLen := by
    obtain ⟨A, c', e, h1⟩ := own_shape h
    injection e with _ _ e
    subst e
    exact h1
  have hcM := hcap.2
  unfold maxLen at hcM
  have hwf : ∀ z ∈ fl zs, (Lit.int .u64 (z : Int)).wf = true := fun z hz => by
    have h1 := hw z (List.mem_filter.1 hz).1
    exact wfU64c z h1
  have HF := Lib.hid hwf
  have hfl : (fl zs).length ≤ zs.length := List.length_filter_le _ _
  obtain ⟨m, hm⟩ : ∃ m, m = (fl zs).length := ⟨_, rfl⟩
  rw [← hm]
  have HM := Lib.hid hm
  clear hm
  clear h hn hw hwf
  have HROW : Hid (∀ W (xs : List Nat) (m : Nat), (fl zs).length = m → m ≤ n → g < W.heap.size → (∀ r, r < m → W.cell? ⟨g, r, none⟩ = some (.int .u64 (zg xs r : Nat))) → (∀ r, r < m → zg xs r = zg (fl zs) r) → IRow W (some ⟨g, 0, none⟩) m .u64 ((fl zs).map fun (z : Nat) => (z : Int))) := fun W xs m e1 e2 e3 e4 e5 => by
    have hgi : ∀ r, r < m → gi ((fl zs).map fun (z : Nat) => (z : Int)) r = (zg (fl zs) r : Int) := fun r hr => by
      simp [gi, zg, show r < (fl zs).length by omega]
    refine ⟨by rw [List.length_map]; exact e1, by unfold maxLen; omega, fun _ => ⟨g, 0, rfl, e3, fun r hr => ?_⟩, fun r hr => ?_⟩
    · rw [Nat.zero_add, e4 r hr, e5 r hr, hgi r hr]
    · rw [hgi r hr, zg_lt (by omega)]
      exact HF.out _ (List.getElem_mem _)
  go_enter Tryd.func59, Tryd.ntmps59
  go_wp2_with fail
  refine HI.out.mono ?_
  rintro e _ ⟨ix, rfl, rfl, hix⟩
  rcases hix with ⟨rfl, hall⟩ | ⟨k, hk, rfl, hlo, hup⟩
  · have e1 := fl_all hall
    have hr := HROW.out w zs n (by rw [e1]; exact HN.out) (Nat.le_refl _) hgl (fun r hr => (HO.out.cellAt r (by omega)).trans (uv_at (by rw [HN.out]; exact hr))) (fun r hr => by rw [e1])
    obtain rfl : n = m := by rw [HM.out, e1]; exact HN.out.symm
    have HR := Lib.hid hr
    clear hr e1 hall hfl
    go_wp2
    go_ret
    exact ⟨rfl, HR.out, Below.refl _ _⟩
  · have hkn : k < n := by rw [← HN.out]; exact hk
    have hk1 : ((k : Int) == -1) = false := by rw [beq_eq_false_iff_ne]; omega
    have H0 : DlS w w B base g n c zs zs k (k + 1) := ⟨HO.out, HN.out, by omega, by
      rw [fl_take hk, if_neg (by omega), List.append_nil]
      refine (fl_all fun r hr => ?_).symm
      have hrk : r < k := by rw [List.length_take] at hr; omega
      have h1 := hup r hrk
      rw [zg_lt (by omega)] at h1
      rw [zg_lt hr, List.getElem_take]
      exact h1, fun r _ _ => rfl, ⟨rfl, rfl, rfl, Nat.le_refl _, fun b hb => rfl⟩⟩
    have HD0 := Lib.hid H0
    clear H0 hlo hup hk
    go_wp2
    go_loopw [5, 6] (fun iv jv wr => ∃ (i j : Nat) (xs : List Nat), j ≤ n ∧ iv = .int .i64 i ∧ jv = .int .i64 j ∧ Hid (DlS w wr B base g n c zs xs i j)) (fun iv jv _ => n - (intOf jv).toNat)
    case atStart => exact ⟨k, k + 1, zs, by omega, rfl, by go_num, HD0⟩
    case round =>
      obtain ⟨i, j, xs, hj, rfl, rfl, hD⟩ := hrel
      have hij := hD.out.ij
      by_cases hlt : j < n
      · have hjn : (j : Int) < n := by omega
        have hj0 : (0 : Int) ≤ (j : Int) := by omega
        have hi0 : (0 : Int) ≤ (i : Int) := by omega
        have hin : (i : Int) < n := by omega
        have q1 := (hD.out.own.cellAt j (by omega)).trans (uv_at (by rw [hD.out.len]; exact hlt))
        rw [hD.out.rest j (Nat.le_refl _) hlt] at q1
        have q2 := (hD.out.own.cellAt i (by omega)).trans (uv_at (by rw [hD.out.len]; omega))
        have f2 := hD.out.own.frozenAt i
        have HV := Lib.hid (closeU_c (zg zs j))
        by_cases hz : zg zs j < 4294967295
        · have hd : decide (zg zs j < 4294967295) = true := decide_eq_true hz
          rw [hd] at HV
          have HX := Lib.hid (hD.out.skip HN.out hlt hz)
          clear hz hd
          go_wp2_with (go_at_call 60; refine (HV.out _).mono ?_; rintro e w' ⟨rfl, rfl⟩)
          go_roundw
          case rel => exact ⟨i, j + 1, xs, by omega, rfl, by go_num, HX⟩
          case measure => simp [intOf]; omega
        · have hd : decide (zg zs j < 4294967295) = false := decide_eq_false hz
          rw [hd] at HV
          have HX := Lib.hid (hD.out.keep HN.out hlt hz hg)
          clear hz hd
          go_wp2_with (go_at_call 60; refine (HV.out _).mono ?_; rintro e w' ⟨rfl, rfl⟩)
          go_roundw
          case rel => exact ⟨i + 1, j + 1, _, by omega, by go_num, by go_num, HX⟩
          case measure => simp [intOf]; omega
      · obtain rfl : n = j := by omega
        have hjn : ¬ (n : Int) < n := by omega
        have hcl : ∀ ty, (Builtin.clear_ #[54] ty #[.slice (some ⟨g, i, none⟩) (n - i) (c - i)]).run Tryd.prog wr = .ok (.tuple #[]) (wr.setCells g i (List.replicate (n - i) (.int .u64 0))) :=
          fun ty => Lib.run_clear_slice wr 54 25 ty (.int .u64 0) Tryd.underlying54 zero_u64 rfl rfl g i (n - i) (c - i) (by omega) (fun r hr => by rw [hD.out.own.cellAt (i + r) (by omega), uv_at (by rw [hD.out.len]; omega)]; rfl) (fun r hr => hD.out.own.frozenAt (i + r))
        have hti : xs.take i = fl zs := by
          rw [hD.out.done, List.take_of_length_le (by rw [HN.out]; exact Nat.le_refl _)]
        have hfi : (fl zs).length = i := by rw [← hti, List.length_take, hD.out.len]; omega
        have hb := below_setCells hg (List.replicate (n - i) (.int .u64 0)) i wr hD.out.bel
        have hr := HROW.out (wr.setCells g i (List.replicate (n - i) (.int .u64 0))) xs i hfi (by omega) (by rw [size_setCellsA]; exact (hD.out.own.lt g rfl).2) (fun r hr => by
          rw [World.cell?_setCells_out g _ _ _ _ (fun _ _ => .inl hr), hD.out.own.cellAt r (by omega), uv_at (by rw [hD.out.len]; omega)]) (fun r hr => by
          rw [← hti]
          unfold zg
          rw [List.getD_eq_getElem?_getD, List.getD_eq_getElem?_getD, List.getElem?_take, if_pos hr])
        obtain rfl : i = m := by rw [HM.out]; exact hfi.symm
        have HR := Lib.hid hr
        have HBB := Lib.hid hb
        have hic : (i : Int) ≤ (c : Int) := by omega
        have hin : (i : Int) ≤ (n : Int) := by omega
        have hi0 : (0 : Int) ≤ (i : Int) := by omega
        clear hr hb hti hfi hfl
        go_wp2_with (simp only [hcl])
        go_ret
        exact ⟨rfl, HR.out, HBB.out⟩
end Go.Proofs.YtacllgglpjdobaaDoor
