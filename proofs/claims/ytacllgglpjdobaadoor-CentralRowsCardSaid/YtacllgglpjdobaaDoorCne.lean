/-
  RECORDS OF THE DIRECTORY: the document's bytes of what does not fit, whatever the record; how many bytes a record has by it; the lesser of two numbers (WRITTEN by wip/gen19e.py). No conditions (but for the length of a name).
-/
import Derived.Test.YtacllgglpjdobaaDoorCnd
namespace Go.Proofs.YtacllgglpjdobaaDoor
open Go.RowKit
set_option maxRecDepth 100000
set_option linter.unusedVariables false

/-- what is told behind the name -/
def exP (c : Rc) : List (Nat × Nat) := (if 4294967295 ≤ c.h.sz then [(c.h.sz, 8)] else []) ++ ((if 4294967295 ≤ c.h.pk then [(c.h.pk, 8)] else []) ++ ((if 4294967295 ≤ c.o then [(c.o, 8)] else []) ++ (if 65535 ≤ c.d then [(c.d, 4)] else [])))
def exB (c : Rc) : List F := if nsN (exP c) = 0 then [] else [ofN 1, ofN 0, ofN (nsN (exP c)), ofN 0] ++ nsB (exP c)
theorem exP_len (c : Rc) : nsN (exP c) = 8 * (bgs c).length + if 65535 ≤ c.d then 4 else 0 := by
  unfold exP bgs fl
  rw [nsN_append, nsN_append, nsN_append]
  by_cases h1 : 4294967295 ≤ c.h.sz <;> by_cases h2 : 4294967295 ≤ c.h.pk <;> by_cases h3 : 4294967295 ≤ c.o <;> by_cases h4 : 65535 ≤ c.d <;> simp [h1, h2, h3, h4, nsN]
theorem exB_length (c : Rc) : (exB c).length = bh c := by
  have h := exP_len c
  unfold exB bh
  rw [← h]
  by_cases e : nsN (exP c) = 0
  · rw [if_pos e, if_pos e]; rfl
  · rw [if_neg e, if_neg e, List.length_append, nsB_length]
    simp
    omega
set_option maxHeartbeats 2000000 in
theorem RExtra_c {c : Rc} (hW : RcW c) (w : World) : Calls Tryd.prog 28 #[rcV c] w fun e w' => ∃ A c', e = .returned (.slice A (bh c) c') ∧ w'.ownsRow w.heap.size 5 1 (.slice A (bh c) c') (bh c) (cs (exB c)) ∧ Below w.heap.size w w' := by
  have hp := hW.h.pk
  have hz := hW.h.sz
  have ho := hW.o
  have hk := hW.d
  rw [← exB_length c]
  have hI : ∀ (f n : Nat), decide ((f : Int) ≤ (n : Int)) = decide (f ≤ n) := fun f n => decide_eq_decide.2 (by omega)
  unfold rcV rcC
  by_cases hz_ : 4294967295 ≤ c.h.sz
  · by_cases hp_ : 4294967295 ≤ c.h.pk
    · by_cases ho_ : 4294967295 ≤ c.o
      · by_cases hk_ : 65535 ≤ c.d
        · have he : exP c = [(c.h.sz, 8), (c.h.pk, 8), (c.o, 8), (c.d, 4)] := by unfold exP; rw [if_pos hz_, if_pos hp_, if_pos ho_, if_pos hk_]; rfl
          have hx : exB c = [ofN 1, ofN 0, ofN 28, ofN 0] ++ nsB [(c.h.sz, 8), (c.h.pk, 8), (c.o, 8), (c.d, 4)] := by unfold exB; rw [he]; rfl
          have hl : (exB c).length = 32 := by rw [hx]; rfl
          rw [hl, hx]
          exact extra_15 hz hp ho hk ((hI _ _).trans (decide_eq_true hz_)) ((hI _ _).trans (decide_eq_true hp_)) ((hI _ _).trans (decide_eq_true ho_)) ((hI _ _).trans (decide_eq_true hk_)) w
        · have he : exP c = [(c.h.sz, 8), (c.h.pk, 8), (c.o, 8)] := by unfold exP; rw [if_pos hz_, if_pos hp_, if_pos ho_, if_neg hk_]; rfl
          have hx : exB c = [ofN 1, ofN 0, ofN 24, ofN 0] ++ nsB [(c.h.sz, 8), (c.h.pk, 8), (c.o, 8)] := by unfold exB; rw [he]; rfl
          have hl : (exB c).length = 28 := by rw [hx]; rfl
          rw [hl, hx]
          exact extra_7 hz hp ho hk ((hI _ _).trans (decide_eq_true hz_)) ((hI _ _).trans (decide_eq_true hp_)) ((hI _ _).trans (decide_eq_true ho_)) ((hI _ _).trans (decide_eq_false hk_)) w
      · by_cases hk_ : 65535 ≤ c.d
        · have he : exP c = [(c.h.sz, 8), (c.h.pk, 8), (c.d, 4)] := by unfold exP; rw [if_pos hz_, if_pos hp_, if_neg ho_, if_pos hk_]; rfl
          have hx : exB c = [ofN 1, ofN 0, ofN 20, ofN 0] ++ nsB [(c.h.sz, 8), (c.h.pk, 8), (c.d, 4)] := by unfold exB; rw [he]; rfl
          have hl : (exB c).length = 24 := by rw [hx]; rfl
          rw [hl, hx]
          exact extra_11 hz hp ho hk ((hI _ _).trans (decide_eq_true hz_)) ((hI _ _).trans (decide_eq_true hp_)) ((hI _ _).trans (decide_eq_false ho_)) ((hI _ _).trans (decide_eq_true hk_)) w
        · have he : exP c = [(c.h.sz, 8), (c.h.pk, 8)] := by unfold exP; rw [if_pos hz_, if_pos hp_, if_neg ho_, if_neg hk_]; rfl
          have hx : exB c = [ofN 1, ofN 0, ofN 16, ofN 0] ++ nsB [(c.h.sz, 8), (c.h.pk, 8)] := by unfold exB; rw [he]; rfl
          have hl : (exB c).length = 20 := by rw [hx]; rfl
          rw [hl, hx]
          exact extra_3 hz hp ho hk ((hI _ _).trans (decide_eq_true hz_)) ((hI _ _).trans (decide_eq_true hp_)) ((hI _ _).trans (decide_eq_false ho_)) ((hI _ _).trans (decide_eq_false hk_)) w
    · by_cases ho_ : 4294967295 ≤ c.o
      · by_cases hk_ : 65535 ≤ c.d
        · have he : exP c = [(c.h.sz, 8), (c.o, 8), (c.d, 4)] := by unfold exP; rw [if_pos hz_, if_neg hp_, if_pos ho_, if_pos hk_]; rfl
          have hx : exB c = [ofN 1, ofN 0, ofN 20, ofN 0] ++ nsB [(c.h.sz, 8), (c.o, 8), (c.d, 4)] := by unfold exB; rw [he]; rfl
          have hl : (exB c).length = 24 := by rw [hx]; rfl
          rw [hl, hx]
          exact extra_13 hz hp ho hk ((hI _ _).trans (decide_eq_true hz_)) ((hI _ _).trans (decide_eq_false hp_)) ((hI _ _).trans (decide_eq_true ho_)) ((hI _ _).trans (decide_eq_true hk_)) w
        · have he : exP c = [(c.h.sz, 8), (c.o, 8)] := by unfold exP; rw [if_pos hz_, if_neg hp_, if_pos ho_, if_neg hk_]; rfl
          have hx : exB c = [ofN 1, ofN 0, ofN 16, ofN 0] ++ nsB [(c.h.sz, 8), (c.o, 8)] := by unfold exB; rw [he]; rfl
          have hl : (exB c).length = 20 := by rw [hx]; rfl
          rw [hl, hx]
          exact extra_5 hz hp ho hk ((hI _ _).trans (decide_eq_true hz_)) ((hI _ _).trans (decide_eq_false hp_)) ((hI _ _).trans (decide_eq_true ho_)) ((hI _ _).trans (decide_eq_false hk_)) w
      · by_cases hk_ : 65535 ≤ c.d
        · have he : exP c = [(c.h.sz, 8), (c.d, 4)] := by unfold exP; rw [if_pos hz_, if_neg hp_, if_neg ho_, if_pos hk_]; rfl
          have hx : exB c = [ofN 1, ofN 0, ofN 12, ofN 0] ++ nsB [(c.h.sz, 8), (c.d, 4)] := by unfold exB; rw [he]; rfl
          have hl : (exB c).length = 16 := by rw [hx]; rfl
          rw [hl, hx]
          exact extra_9 hz hp ho hk ((hI _ _).trans (decide_eq_true hz_)) ((hI _ _).trans (decide_eq_false hp_)) ((hI _ _).trans (decide_eq_false ho_)) ((hI _ _).trans (decide_eq_true hk_)) w
        · have he : exP c = [(c.h.sz, 8)] := by unfold exP; rw [if_pos hz_, if_neg hp_, if_neg ho_, if_neg hk_]; rfl
          have hx : exB c = [ofN 1, ofN 0, ofN 8, ofN 0] ++ nsB [(c.h.sz, 8)] := by unfold exB; rw [he]; rfl
          have hl : (exB c).length = 12 := by rw [hx]; rfl
          rw [hl, hx]
          exact extra_1 hz hp ho hk ((hI _ _).trans (decide_eq_true hz_)) ((hI _ _).trans (decide_eq_false hp_)) ((hI _ _).trans (decide_eq_false ho_)) ((hI _ _).trans (decide_eq_false hk_)) w
  · by_cases hp_ : 4294967295 ≤ c.h.pk
    · by_cases ho_ : 4294967295 ≤ c.o
      · by_cases hk_ : 65535 ≤ c.d
        · have he : exP c = [(c.h.pk, 8), (c.o, 8), (c.d, 4)] := by unfold exP; rw [if_neg hz_, if_pos hp_, if_pos ho_, if_pos hk_]; rfl
          have hx : exB c = [ofN 1, ofN 0, ofN 20, ofN 0] ++ nsB [(c.h.pk, 8), (c.o, 8), (c.d, 4)] := by unfold exB; rw [he]; rfl
          have hl : (exB c).length = 24 := by rw [hx]; rfl
          rw [hl, hx]
          exact extra_14 hz hp ho hk ((hI _ _).trans (decide_eq_false hz_)) ((hI _ _).trans (decide_eq_true hp_)) ((hI _ _).trans (decide_eq_true ho_)) ((hI _ _).trans (decide_eq_true hk_)) w
        · have he : exP c = [(c.h.pk, 8), (c.o, 8)] := by unfold exP; rw [if_neg hz_, if_pos hp_, if_pos ho_, if_neg hk_]; rfl
          have hx : exB c = [ofN 1, ofN 0, ofN 16, ofN 0] ++ nsB [(c.h.pk, 8), (c.o, 8)] := by unfold exB; rw [he]; rfl
          have hl : (exB c).length = 20 := by rw [hx]; rfl
          rw [hl, hx]
          exact extra_6 hz hp ho hk ((hI _ _).trans (decide_eq_false hz_)) ((hI _ _).trans (decide_eq_true hp_)) ((hI _ _).trans (decide_eq_true ho_)) ((hI _ _).trans (decide_eq_false hk_)) w
      · by_cases hk_ : 65535 ≤ c.d
        · have he : exP c = [(c.h.pk, 8), (c.d, 4)] := by unfold exP; rw [if_neg hz_, if_pos hp_, if_neg ho_, if_pos hk_]; rfl
          have hx : exB c = [ofN 1, ofN 0, ofN 12, ofN 0] ++ nsB [(c.h.pk, 8), (c.d, 4)] := by unfold exB; rw [he]; rfl
          have hl : (exB c).length = 16 := by rw [hx]; rfl
          rw [hl, hx]
          exact extra_10 hz hp ho hk ((hI _ _).trans (decide_eq_false hz_)) ((hI _ _).trans (decide_eq_true hp_)) ((hI _ _).trans (decide_eq_false ho_)) ((hI _ _).trans (decide_eq_true hk_)) w
        · have he : exP c = [(c.h.pk, 8)] := by unfold exP; rw [if_neg hz_, if_pos hp_, if_neg ho_, if_neg hk_]; rfl
          have hx : exB c = [ofN 1, ofN 0, ofN 8, ofN 0] ++ nsB [(c.h.pk, 8)] := by unfold exB; rw [he]; rfl
          have hl : (exB c).length = 12 := by rw [hx]; rfl
          rw [hl, hx]
          exact extra_2 hz hp ho hk ((hI _ _).trans (decide_eq_false hz_)) ((hI _ _).trans (decide_eq_true hp_)) ((hI _ _).trans (decide_eq_false ho_)) ((hI _ _).trans (decide_eq_false hk_)) w
    · by_cases ho_ : 4294967295 ≤ c.o
      · by_cases hk_ : 65535 ≤ c.d
        · have he : exP c = [(c.o, 8), (c.d, 4)] := by unfold exP; rw [if_neg hz_, if_neg hp_, if_pos ho_, if_pos hk_]; rfl
          have hx : exB c = [ofN 1, ofN 0, ofN 12, ofN 0] ++ nsB [(c.o, 8), (c.d, 4)] := by unfold exB; rw [he]; rfl
          have hl : (exB c).length = 16 := by rw [hx]; rfl
          rw [hl, hx]
          exact extra_12 hz hp ho hk ((hI _ _).trans (decide_eq_false hz_)) ((hI _ _).trans (decide_eq_false hp_)) ((hI _ _).trans (decide_eq_true ho_)) ((hI _ _).trans (decide_eq_true hk_)) w
        · have he : exP c = [(c.o, 8)] := by unfold exP; rw [if_neg hz_, if_neg hp_, if_pos ho_, if_neg hk_]; rfl
          have hx : exB c = [ofN 1, ofN 0, ofN 8, ofN 0] ++ nsB [(c.o, 8)] := by unfold exB; rw [he]; rfl
          have hl : (exB c).length = 12 := by rw [hx]; rfl
          rw [hl, hx]
          exact extra_4 hz hp ho hk ((hI _ _).trans (decide_eq_false hz_)) ((hI _ _).trans (decide_eq_false hp_)) ((hI _ _).trans (decide_eq_true ho_)) ((hI _ _).trans (decide_eq_false hk_)) w
      · by_cases hk_ : 65535 ≤ c.d
        · have he : exP c = [(c.d, 4)] := by unfold exP; rw [if_neg hz_, if_neg hp_, if_neg ho_, if_pos hk_]; rfl
          have hx : exB c = [ofN 1, ofN 0, ofN 4, ofN 0] ++ nsB [(c.d, 4)] := by unfold exB; rw [he]; rfl
          have hl : (exB c).length = 8 := by rw [hx]; rfl
          rw [hl, hx]
          exact extra_8 hz hp ho hk ((hI _ _).trans (decide_eq_false hz_)) ((hI _ _).trans (decide_eq_false hp_)) ((hI _ _).trans (decide_eq_false ho_)) ((hI _ _).trans (decide_eq_true hk_)) w
        · have he : exP c = [] := by unfold exP; rw [if_neg hz_, if_neg hp_, if_neg ho_, if_neg hk_]; rfl
          have hx : exB c = [] := by unfold exB; rw [he]; rfl
          have hl : (exB c).length = 0 := by rw [hx]; rfl
          rw [hl, hx]
          exact extra_0 hz hp ho hk ((hI _ _).trans (decide_eq_false hz_)) ((hI _ _).trans (decide_eq_false hp_)) ((hI _ _).trans (decide_eq_false ho_)) ((hI _ _).trans (decide_eq_false hk_)) w
set_option maxHeartbeats 2000000 in
theorem RSizeC_c {c : Rc} (hW : RcW c) (hn : c.h.nm.length ≤ 1000000) (w : World) : Calls Tryd.prog 14 #[rcV c] w fun e w' => e = .returned (.int .i64 (46 + ((S c.h.nm).size : Int) + (bh c : Int))) ∧ Below w.heap.size w w' := by
  have hl := bh_le c
  have HG := Lib.hid (fun w => RExtra_c hW w)
  obtain ⟨n, hn1⟩ : ∃ n, n = bh c := ⟨_, rfl⟩
  have hns : (S c.h.nm).size = c.h.nm.length := S_size _
  obtain ⟨v, hv⟩ : ∃ v : Nat, ((S c.h.nm).size : Int) = (v : Int) := ⟨_, rfl⟩
  have hv5 : v ≤ 1000000 := by omega
  rw [← hn1]
  have e1 : IntKind.i64.wrap (46 + (v : Int)) = 46 + (v : Int) := IntWalk.i64_in _ (by omega)
  have e2 : IntKind.i64.wrap (46 + (v : Int) + (n : Int)) = 46 + (v : Int) + (n : Int) := IntWalk.i64_in _ (by omega)
  rw [hv]
  rw [← hn1] at HG hl
  clear hn1 hW hns
  generalize exB c = X at *
  unfold rcV at *
  have hb0 := (Below.refl w.heap.size w).alloc (Nat.le_refl _) (.cells (rcC c) 39)
  have HB1 := Lib.hid (below_drewN hb0 1)
  have HX1 : Hid (Blk (w.alloc (.cells (rcC c) 39)).drew w.heap.size 39 (rcC c)) := Blk.new w 39 (rcC c)
  clear hb0
  obtain ⟨⟨m, ⟨y, mo, d, hh, mi, s⟩, sum, p, z, nm⟩, k, o⟩ := c
  unfold rcC at *
  dsimp only at *
  go_enter Tryd.func14, Tryd.ntmps14
  go_wp2_with fail
  refine wp_region_held_drew (S := fun W' => W'.cell? ⟨w.heap.size, 0, none⟩ = some (Value.int .i64 m) ∧ W'.cell? ⟨w.heap.size, 1, none⟩ = some (Value.int .i64 y) ∧ W'.cell? ⟨w.heap.size, 2, none⟩ = some (Value.int .i64 mo) ∧ W'.cell? ⟨w.heap.size, 3, none⟩ = some (Value.int .i64 d) ∧ W'.cell? ⟨w.heap.size, 4, none⟩ = some (Value.int .i64 hh) ∧ W'.cell? ⟨w.heap.size, 5, none⟩ = some (Value.int .i64 mi) ∧ W'.cell? ⟨w.heap.size, 6, none⟩ = some (Value.int .i64 s) ∧ W'.cell? ⟨w.heap.size, 7, none⟩ = some (Value.int .u32 sum) ∧ W'.cell? ⟨w.heap.size, 8, none⟩ = some (Value.int .u64 p) ∧ W'.cell? ⟨w.heap.size, 9, none⟩ = some (Value.int .u64 z) ∧ W'.cell? ⟨w.heap.size, 10, none⟩ = some (Value.string (S nm)) ∧ W'.cell? ⟨w.heap.size, 11, none⟩ = some (Value.int .u32 k) ∧ W'.cell? ⟨w.heap.size, 12, none⟩ = some (Value.int .u64 o)) (by kernel_rfl) ?_ (fun hHeld => ?_)
  · exact ⟨HX1.out.cell 0, HX1.out.cell 1, HX1.out.cell 2, HX1.out.cell 3, HX1.out.cell 4, HX1.out.cell 5, HX1.out.cell 6, HX1.out.cell 7, HX1.out.cell 8, HX1.out.cell 9, HX1.out.cell 10, HX1.out.cell 11, HX1.out.cell 12⟩
  refine wpAnyH_take (i := 0) (oi := { dst := some 3, op := _, type := _, pos := _, after := _, guard := _ }) (v := ?_) rfl (by kernel_rfl) (by kernel_rfl) (by kernel_rfl) (fun _ _ _ h => h) (Or.inl ⟨by rfl, ?_⟩) (by assumption) ?_
  rotate_left
  · intro w' hSw
    try dsimp only at hSw
    go_simp
    try with_reducible rfl
  try simp only [Act.put, List.setIfInBounds_toArray, List.set_cons_zero, List.set_cons_succ]
  refine wpAnyH_take (i := 1) (oi := { dst := some 4, op := _, type := _, pos := _, after := _, guard := _ }) (v := ?_) rfl (by kernel_rfl) (by kernel_rfl) (by kernel_rfl) (fun _ _ _ h => h) (Or.inl ⟨by rfl, ?_⟩) (by assumption) ?_
  rotate_left
  · intro w' hSw
    try dsimp only at hSw
    go_simp
    try with_reducible rfl
  try simp only [Act.put, List.setIfInBounds_toArray, List.set_cons_zero, List.set_cons_succ]
  refine wpAnyH_take (i := 2) (oi := { dst := some 5, op := _, type := _, pos := _, after := _, guard := _ }) (v := ?_) rfl (by kernel_rfl) (by kernel_rfl) (by kernel_rfl) (fun _ _ _ h => h) (Or.inl ⟨by rfl, ?_⟩) (by assumption) ?_
  rotate_left
  · intro w' hSw
    try dsimp only at hSw
    go_simp
    try with_reducible rfl
  try simp only [Act.put, List.setIfInBounds_toArray, List.set_cons_zero, List.set_cons_succ]
  refine wpAnyH_take (i := 3) (oi := { dst := some 6, op := _, type := _, pos := _, after := _, guard := _ }) (v := ?_) rfl (by kernel_rfl) (by kernel_rfl) (by kernel_rfl) (fun _ _ _ h => h) (Or.inl ⟨by rfl, ?_⟩) (by assumption) ?_
  rotate_left
  · intro w' hSw
    try dsimp only at hSw
    go_simp
    try with_reducible rfl
  try simp only [Act.put, List.setIfInBounds_toArray, List.set_cons_zero, List.set_cons_succ]
  refine wpAnyH_take (i := 4) (oi := { dst := some 7, op := _, type := _, pos := _, after := _, guard := _ }) (v := ?_) rfl (by kernel_rfl) (by kernel_rfl) (by kernel_rfl) (fun _ _ _ h => h) (Or.inl ⟨by rfl, ?_⟩) (by assumption) ?_
  rotate_left
  · intro w' hSw
    try dsimp only at hSw
    go_simp
    try with_reducible rfl
  try simp only [Act.put, List.setIfInBounds_toArray, List.set_cons_zero, List.set_cons_succ]
  refine wpAnyH_take (i := 5) (oi := { dst := some 8, op := _, type := _, pos := _, after := _, guard := _ }) (v := ?_) rfl (by kernel_rfl) (by kernel_rfl) (by kernel_rfl) (fun _ _ _ h => h) (Or.inl ⟨by rfl, ?_⟩) (by assumption) ?_
  rotate_left
  · intro w' hSw
    try dsimp only at hSw
    go_simp
    try with_reducible rfl
  try simp only [Act.put, List.setIfInBounds_toArray, List.set_cons_zero, List.set_cons_succ]
  refine wpAnyH_ready (rs := [6]) (by kernel_rfl) (by simp) ?_
  refine AllReadyH.cons (o := { dst := some 9, op := _, type := _, pos := _, after := _, guard := _ }) rfl (fun K hK => ?_) AllReadyH.nil
  go_simp
  go_at_call 28
  refine (HG.out _).mono ?_
  rintro e w3 ⟨A3, c3, rfl, _, hb⟩
  try go_wp2_with fail
  have HX2 := Lib.hid (HX1.out.below HX1.out.lt hb)
  have HB2 := Lib.hid (HB1.out.trans (hb.mono HB1.out.size))
  clear hb
  refine hK.out _ _ ?_ (fun hHeld => ?_)
  · exact ⟨HX2.out.cell 0, HX2.out.cell 1, HX2.out.cell 2, HX2.out.cell 3, HX2.out.cell 4, HX2.out.cell 5, HX2.out.cell 6, HX2.out.cell 7, HX2.out.cell 8, HX2.out.cell 9, HX2.out.cell 10, HX2.out.cell 11, HX2.out.cell 12⟩
  clear hK K
  try simp only [Act.put, List.setIfInBounds_toArray, List.set_cons_zero, List.set_cons_succ]
  refine wpAnyH_take (i := 7) (oi := { dst := some 10, op := _, type := _, pos := _, after := _, guard := _ }) (v := ?_) rfl (by kernel_rfl) (by kernel_rfl) (by kernel_rfl) (fun _ _ _ h => h) (Or.inl ⟨by rfl, ?_⟩) (by assumption) ?_
  rotate_left
  · intro w' hSw
    try dsimp only at hSw
    go_simp
    try with_reducible rfl
  try simp only [Act.put, List.setIfInBounds_toArray, List.set_cons_zero, List.set_cons_succ]
  refine wpAnyH_take (i := 8) (oi := { dst := some 11, op := _, type := _, pos := _, after := _, guard := _ }) (v := ?_) rfl (by kernel_rfl) (by kernel_rfl) (by kernel_rfl) (fun _ _ _ h => h) (Or.inl ⟨by rfl, ?_⟩) (by assumption) ?_
  rotate_left
  · intro w' hSw
    try dsimp only at hSw
    go_simp
    try with_reducible rfl
  try simp only [Act.put, List.setIfInBounds_toArray, List.set_cons_zero, List.set_cons_succ]
  refine wpAnyH_take (i := 9) (oi := { dst := some 2, op := _, type := _, pos := _, after := _, guard := _ }) (v := ?_) rfl (by kernel_rfl) (by kernel_rfl) (by kernel_rfl) (fun _ _ _ h => h) (Or.inl ⟨by rfl, ?_⟩) (by assumption) ?_
  rotate_left
  · intro w' hSw
    try dsimp only at hSw
    go_simp
    try with_reducible rfl
  try simp only [Act.put, List.setIfInBounds_toArray, List.set_cons_zero, List.set_cons_succ]
  refine wpAnyH_done (by kernel_rfl) ?_ _
  go_wp2
  go_ret
  exact ⟨by simp, HB2.out⟩
theorem least_c (a b : Nat) (w : World) : Calls Tryd.prog 44 #[.int .u64 (a : Nat), .int .u64 (b : Nat)] w fun e w' => e = .returned (.int .u64 (min a b : Nat)) ∧ w = w' := by
  by_cases h : a < b
  · have hi : (a : Int) < (b : Int) := by omega
    rw [Nat.min_eq_left (by omega)]
    clear h
    go_enter Tryd.func44, Tryd.ntmps44
    go_wp2
    go_ret
    exact ⟨rfl, rfl⟩
  · have hi : ¬ (a : Int) < (b : Int) := by omega
    rw [Nat.min_eq_right (by omega)]
    clear h
    go_enter Tryd.func44, Tryd.ntmps44
    go_wp2
    go_ret
    exact ⟨rfl, rfl⟩
end Go.Proofs.YtacllgglpjdobaaDoor
