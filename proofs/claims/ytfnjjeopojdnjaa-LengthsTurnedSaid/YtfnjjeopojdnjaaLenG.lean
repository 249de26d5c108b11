/-
  THE SYMBOLS THAT COME, THE RAREST FIRST. No conditions but how many there are.
-/
import Derived.Test.YtfnjjeopojdnjaaLenW
import Derived.Deep.AppendLies
import Derived.RangeFuncBox
namespace Go.Proofs.Ytfnjjeopojdnjaa
open Go.RowKit
set_option maxRecDepth 100000
set_option linter.unusedVariables false

/-- the symbols below k that come -/
def comeN (fr : List Int) : Nat → List Nat
  | 0 => []
  | k + 1 => comeN fr k ++ (if 0 < gi fr k then [k] else [])
def iN (l : List Nat) : List Value := l.map fun x => .int .i64 ((x : Nat) : Int)
theorem iN_append (l m : List Nat) : iN (l ++ m) = iN l ++ iN m := by simp [iN]
theorem comeN_len (fr : List Int) (k : Nat) : (comeN fr k).length ≤ k := by
  induction k with
  | zero => exact Nat.le_refl _
  | succ k ih =>
    unfold comeN
    rw [List.length_append]
    split
    · rw [List.length_singleton]; omega
    · rw [List.length_nil]; omega
theorem comeN_mem (fr : List Int) (k : Nat) : ∀ x ∈ comeN fr k, x < k ∧ 0 < gi fr x := by
  induction k with
  | zero => intro x hx; cases hx
  | succ k ih =>
    intro x hx
    unfold comeN at hx
    rcases List.mem_append.1 hx with h | h
    · exact ⟨by have := (ih x h).1; omega, (ih x h).2⟩
    · split at h
      · rename_i h1
        rw [List.mem_singleton] at h
        subst h
        exact ⟨by omega, h1⟩
      · cases h
theorem comeN_count (fr : List Int) (v k : Nat) : (comeN fr k).count v = if v < k ∧ 0 < gi fr v then 1 else 0 := by
  induction k with
  | zero => simp [comeN]
  | succ k ih =>
    unfold comeN
    rw [List.count_append, ih]
    by_cases h : 0 < gi fr k
    · rw [if_pos h]
      by_cases e : v = k
      · subst e
        rw [if_neg (by omega), if_pos ⟨by omega, h⟩]
        simp
      · have : List.count v [k] = 0 := by rw [List.count_singleton]; simp; omega
        rw [this, Nat.add_zero]
        congr 1
        simp only [eq_iff_iff]
        exact ⟨fun h => ⟨by omega, h.2⟩, fun h => ⟨by omega, h.2⟩⟩
    · rw [if_neg h, List.count_nil, Nat.add_zero]
      congr 1
      simp only [eq_iff_iff]
      refine ⟨fun h => ⟨by omega, h.2⟩, fun h1 => ⟨?_, h1.2⟩⟩
      rcases (show v < k ∨ v = k by omega) with h2 | rfl
      · exact h2
      · exact absurd h1.2 h
theorem cnD_count (l : List Nat) (v : Nat) : ∀ k, k ≤ l.length → cnD (fun i => l.getD i 0) v k = (l.take k).count v := by
  intro k
  induction k with
  | zero => intro _; simp [cnD]
  | succ k ih =>
    intro hk
    rw [cnD_succ, ih (by omega), List.take_succ_eq_append_getElem (by omega), List.count_append]
    congr 1
    rw [List.count_singleton, List.getD_eq_getElem?_getD, List.getElem?_eq_getElem (by omega)]
    simp
/-- symbols in an order: just those that come, sorted by how often -/
structure Come (fr : List Int) (n m : Nat) (d : Nat → Nat) : Prop where
  le : m ≤ n
  sym : ∀ i, i < m → d i < n
  srt : SrtI (gi fr) d 0 m
  cnt : ∀ v, cnD d v m = if v < n ∧ 0 < gi fr v then 1 else 0
def lsD (d : Nat → Nat) (m : Nat) : List Int := (List.range m).map fun i => ((d i : Nat) : Int)
theorem lsD_at (d : Nat → Nat) {m i : Nat} (h : i < m) : gi (lsD d m) i = (d i : Nat) := by
  unfold gi lsD
  simp [List.getD_eq_getElem?_getD, h]
theorem lsD_length (d : Nat → Nat) (m : Nat) : (lsD d m).length = m := by simp [lsD]
theorem IRow.ofD {w : World} {g m n : Nat} {d : Nat → Nat} (h : DRow w g m d) (hs : ∀ i, i < m → d i < n) (hn : n ≤ 1000) (hm : m ≤ 1000) : IRow w (some ⟨g, 0, none⟩) m .i64 (lsD d m) := by
  refine ⟨lsD_length d m, by unfold maxLen; omega, fun _ => ⟨g, 0, rfl, RowV.lt h, fun i hi => ?_⟩, fun i hi => ?_⟩
  · rw [Nat.zero_add, RowV.cell h hi, lsD_at d hi]
  · rw [lsD_at d hi]
    have := hs i hi
    have hmin : IntKind.i64.min = -9223372036854775808 := rfl
    have hmax : IntKind.i64.max = 9223372036854775807 := rfl
    simp only [Lit.wf, Bool.and_eq_true, decide_eq_true_eq]
    omega
theorem info_int : (Try.prog.info? 3).map (fun i => (i.zero, i.size, i.bytes)) = some (some (.int .i64 0), 1, 8) := by kernel_rfl
theorem one_cellI (w : World) (x : Nat) : ∀ j u, (iN [x])[j]? = some u → (w.alloc (.cells #[.int .i64 (x : Nat)] 3)).cell? ((⟨w.heap.size, 0, none⟩ : Addr).add j) = some u := by
  have h := World.news_of_block (cs := #[.int .i64 (x : Nat)]) (t := 3) (fr := (0, 0)) (heap_alloc_new w (.cells #[.int .i64 (x : Nat)] 3))
  exact h
theorem iN_one (l : List Nat) : ∀ u ∈ iN l, u.oneCell' = true := by
  intro u hu
  obtain ⟨x, _, rfl⟩ := List.mem_map.1 hu
  rfl
theorem insertNone_c (F : Value) (w : World) : Calls Try.prog 37 #[.slice none 0 0, .int .i64 0, .int .i64 0, F] w fun e w' => e = .returned (.tuple #[]) ∧ w = w' := by
  go_enter Try.func37, Try.ntmps37
  go_wp2
  go_loop [8] (fun i => i = .int .i64 1) (fun _ => 0)
  case atStart => rfl
  case round =>
    obtain rfl := hrel
    go_wp2
    go_end0
    exact ⟨rfl, rfl⟩
set_option maxHeartbeats 1000000 in
theorem stableNone_c (F : Value) (w : World) : Calls Try.prog 33 #[.slice none 0 0, .int .i64 0, F] w fun e w' => e = .returned (.tuple #[]) ∧ w = w' := by
  go_enter Try.func33, Try.ntmps33
  go_wp2
  go_loop [7, 8] (fun a b => a = .int .i64 0 ∧ b = .int .i64 20) (fun _ _ => 0)
  case atStart => exact ⟨rfl, rfl⟩
  case round =>
    obtain ⟨rfl, rfl⟩ := hrel
    go_wp2_with fail
    refine (insertNone_c _ w).mono ?_
    rintro e w' ⟨rfl, rfl⟩
    go_wp2
    go_loop [6] (fun a => a = .int .i64 20) (fun _ => 0)
    case atStart => rfl
    case round =>
      obtain rfl := hrel
      go_wp2
      go_end0
      exact ⟨rfl, rfl⟩
/-- sorting nothing -/
theorem SortNone_c (F : Value) (w : World) : Calls Try.prog 28 #[.slice none 0 0, F] w fun e w' => e = .returned (.tuple #[]) ∧ w = w' := by
  go_enter Try.func28, Try.ntmps28
  go_wp2_with fail
  refine (stableNone_c _ w).mono ?_
  rintro e w' ⟨rfl, rfl⟩
  go_wp2
  go_end0
  exact ⟨rfl, rfl⟩
set_option maxHeartbeats 2000000 in
theorem rarestFirst_c (FA : Option Addr) (n cf : Nat) (fr : List Int) (w : World) (hf : IRow w FA n .i64 fr) (hn : n ≤ 300) :
    Calls Try.prog 21 #[.slice FA n cf] w fun e w' => ∃ O c d m, e = .returned (.slice O m c) ∧ m = (comeN fr n).length ∧ m ≤ c ∧ IRow w' O m .i64 (lsD d m) ∧ Come fr n m d ∧ Below w.heap.size w w' := by
  obtain ⟨i0, hi, hz0, hz1, hz2⟩ := info_parts info_int
  go_enter Try.func21, Try.ntmps21
  go_wp2
  obtain ⟨w1, hw1⟩ : ∃ w1, w1 = w.alloc (.cells #[.slice FA n cf] 22) := ⟨_, rfl⟩
  have hb1 : Below w.heap.size w w1 := by rw [hw1]; exact (Below.refl _ _).alloc (Nat.le_refl _) _
  have hbox : Boxed w1 w.heap.size 22 (.slice FA n cf) := by rw [hw1]; exact Boxed.new _ _ _
  have hsz1 : w1.heap.size = w.heap.size + 1 := by rw [hw1]; simp
  rw [← hw1]
  clear hw1
  have hn0 : (n : Int) ≤ 300 := by omega
  go_loopw [3, 8] (fun va vk wr => ∃ (k m : Nat), k ≤ n ∧ m ≤ k ∧ vk = .int .i64 k ∧ Hid (m = (comeN fr k).length) ∧ wr.ownsRow (w.heap.size + 1) 3 1 va m (iN (comeN fr k)) ∧ Boxed wr w.heap.size 22 (.slice FA n cf) ∧ Below w.heap.size w wr)
    (fun _ vk _ => n - (intOf vk).toNat)
  case atStart => exact ⟨0, 0, by omega, by omega, rfl, rfl, World.ownsRow_nil _ _ _ _, hbox, hb1⟩
  case round =>
    obtain ⟨k, m, hk, hmk, rfl, hm, hown, hbx, hbel⟩ := hrel
    by_cases hlt : k < n
    · have hkn : (k : Int) < n := by omega
      obtain ⟨b1, o1, rfl, l1, h1⟩ := (hf.below hbel).at_ hlt
      by_cases hpos : 0 < gi fr k
      · have hc : Hid (comeN fr (k + 1) = comeN fr k ++ [k]) := by
          unfold Hid
          show comeN fr k ++ (if 0 < gi fr k then [k] else []) = _
          rw [if_pos hpos]
        have hs9 : w.heap.size + 1 ≤ wr.heap.size := by have := hbx.lt; omega
        generalize gi fr k = x at *
        go_wp2_with (at_builtin; refine wpList_append_own _ rfl _ _ 22 rfl (w.heap.size + 1) 3 i0 (.int .i64 0) 1 8 Try.underlying22 hi hz0 hz1 hz2 rfl (by decide) _ m (iN (comeN fr k)) rfl (hown.alloc _) ⟨wr.heap.size, 0, none⟩ 1 1 (iN [k]) rfl rfl (one_cellI wr k) (iN_one _) (by unfold maxLen; omega) (by omega) (by simp; omega) ?_; intro v' w5 hown5 hgrow hnil)
        go_wp2
        go_roundw
        case rel =>
          refine ⟨k + 1, m + 1, by omega, by omega, by go_num, by unfold Hid; rw [hc.out, List.length_append, ← hm.out]; rfl, by rw [hc.out, iN_append]; exact hown5, ?_, (hbel.alloc hbel.size _).grown hgrow (by simp; omega) (fun j hj => by have := (hown.lt j hj).1; omega)⟩
          exact Boxed.kept (hbx.alloc _) hgrow (fun e => by have := (hown.lt _ e.symm).1; omega)
        case measure => simp [intOf]; omega
      · have hc : Hid (comeN fr (k + 1) = comeN fr k) := by
          unfold Hid
          show comeN fr k ++ (if 0 < gi fr k then [k] else []) = _
          rw [if_neg hpos, List.append_nil]
        generalize gi fr k = x at *
        go_wp2
        go_roundw
        case rel => exact ⟨k + 1, m, by omega, by omega, by go_num, by unfold Hid; rw [hc.out]; exact hm.out, by rw [hc.out]; exact hown, hbx, hbel⟩
        case measure => simp [intOf]; omega
    · obtain rfl : k = n := by omega
      have hkn : ¬ (k : Int) < (k : Int) := by omega
      have hcnt : ∀ v, cnD (fun i => (comeN fr k).getD i 0) v m = if v < k ∧ 0 < gi fr v then 1 else 0 := fun v => by
        rw [cnD_count _ _ m (by rw [hm.out]; exact Nat.le_refl _), hm.out, List.take_length, comeN_count]
      rcases hown.2 with ⟨hv, h0⟩ | ⟨g, cap, cur, hv, hbg, hgc, hmc, hcm, hcs, htk⟩
      · subst hv
        have HCN := Lib.hid hcnt
        have HM0 := Lib.hid h0
        clear hcnt
        go_wp2_with fail
        refine (SortNone_c _ _).mono ?_
        rintro e w' ⟨rfl, rfl⟩
        go_wp2
        go_ret
        obtain rfl := h0
        exact ⟨none, 0, fun _ => 0, 0, rfl, hm.out, Nat.le_refl _, ⟨rfl, by unfold maxLen; omega, fun h => absurd h (by omega), fun i hi => by omega⟩, ⟨by omega, fun i hi => by omega, fun i j h1 h2 h3 => by omega, fun v => by
          have := HCN.out v
          simpa [cnD] using this⟩, hbel⟩
      · subst hv
        have hsym : ∀ i, i < m → (comeN fr k).getD i 0 < k := fun i hi => by
          have hl : i < (comeN fr k).length := by rw [← hm.out]; exact hi
          rw [List.getD_eq_getElem?_getD, List.getElem?_eq_getElem hl]
          exact (comeN_mem fr k _ (List.getElem_mem hl)).1
        have hrow : DRow wr g m (fun i => (comeN fr k).getD i 0) := by
          refine RowV.congr (RowV.own hown) fun i hi => ?_
          have hl : i < (comeN fr k).length := by rw [← hm.out]; exact hi
          unfold iN
          simp [List.getD_eq_getElem?_getD, hl]
        have hctx : CtxS wr g m w.heap.size FA k cf fr (fun i => (comeN fr k).getD i 0) := by
          refine ⟨hrow, ⟨hbx.cell, hf.below hbel, hbx.lt⟩, ⟨by omega, fun h0 b o e => ?_⟩, hsym⟩
          obtain ⟨b', o', e', hl', _⟩ := hf.cells h0
          rw [e] at e'
          injection e' with e'
          injection e' with e' _
          omega
        have HS := Lib.hid (SortStable_c (cg := cap) hctx (by omega))
        have HCN := Lib.hid hcnt
        have HSY := Lib.hid hsym
        clear hcnt hsym hrow hctx
        go_wp2_with fail
        refine HS.out.mono ?_
        rintro e w' ⟨d', rfl, hctx2, hsame, hsrt, hout⟩
        go_wp2
        go_ret
        have hsym2 := hsame.sym (Nat.le_refl _) HSY.out
        refine ⟨_, cap, d', m, rfl, hm.out, hmc, IRow.ofD hctx2.row hsym2 (by omega) (by omega), ⟨by omega, hsym2, hsrt, fun v => by rw [hsame.2 v]; exact HCN.out v⟩, ?_⟩
        exact hbel.trans ((hout.below (by have := (hown.lt g rfl).2; omega)).mono (by omega))
end Go.Proofs.Ytfnjjeopojdnjaa
