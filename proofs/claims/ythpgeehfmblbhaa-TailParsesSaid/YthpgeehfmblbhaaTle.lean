/-
  TAILS: the document's Great, Locator. No conditions.
-/
import Derived.Test.YthpgeehfmblbhaaTld
namespace Go.Proofs.Ythpgeehfmblbhaa
open Go.RowKit
set_option maxRecDepth 100000
set_option linter.unusedVariables false

theorem tlP1_ok {t : Tl} (h : TlW t) : NsOk (tlP1 t) := by
  obtain ⟨h1, h2, h3, h4, h5, h6, h7, h8, h9⟩ := h
  intro p hp
  unfold two64 at *
  simp [tlP1] at hp
  rcases hp with rfl | rfl | rfl | rfl | rfl | rfl | rfl | rfl | rfl <;> (simp; try omega)
theorem tlP2_ok {t : Tl} (h : TlW t) : NsOk (tlP2 t) := by
  obtain ⟨h1, h2, h3, h4, h5, h6, h7, h8, h9⟩ := h
  intro p hp
  unfold two64 at *
  simp [tlP2] at hp
  rcases hp with rfl | rfl | rfl | rfl <;> (simp; try omega)
theorem tlP3_ok {t : Tl} (h : TlW t) : NsOk (tlP3 t) := by
  obtain ⟨h1, h2, h3, h4, h5, h6, h7, h8, h9⟩ := h
  intro p hp
  unfold two64 at *
  simp [tlP3] at hp
  rcases hp with rfl | rfl | rfl | rfl | rfl | rfl | rfl | rfl <;> (simp; try omega)

/-- two rows that are laid one after the other, as numbers and sizes -/
theorem tlNum_c (P : List (Nat × Nat)) (hP : NsOk P) (n : Nat) (hn : P.length = n) (hn1 : n ≤ 100) (C D : Array Value) (hC : C = ((P.map fun p => (p.1 : Int)).map (Value.int .u64)).toArray) (hD : D = ((P.map fun p => (p.2 : Int)).map (Value.int .i64)).toArray) (T S : TypeId) (w : World) (a b : Nat) (ha : a = w.heap.size) (hb : b = w.heap.size + 1) (ca cb : Nat) :
    Calls Try.prog 22 #[.slice (some ⟨a, 0, none⟩) n ca, .slice (some ⟨b, 0, none⟩) n cb] ((w.alloc (.cells C T)).alloc (.cells D S)) fun e w' => ∃ A c N, e = .returned (.slice A N c) ∧ w'.ownsRow w.heap.size 5 1 (.slice A N c) N (cs (nsB P)) ∧ N = nsN P ∧ Below w.heap.size w w' := by
  have h1 := (Below.refl w.heap.size w).alloc (Nat.le_refl _) (.cells C T)
  have h2 := h1.alloc (by simp) (.cells D S)
  have b1 := (Blk.new w T C).below (by simp) ((Below.refl (w.alloc (.cells C T)).heap.size _).alloc (Nat.le_refl _) (.cells D S))
  have b2 := Blk.new (w.alloc (.cells C T)) S D
  have e2 : (w.alloc (.cells C T)).heap.size = w.heap.size + 1 := by simp
  rw [e2, ← hb] at b2
  rw [← ha] at b1
  have i1 := irow_blk b1 (P.map fun p => (p.1 : Int)) n hC (by rw [List.length_map]; exact hn) (by unfold maxLen; omega) (by
    intro x hx
    obtain ⟨q, hq, rfl⟩ := List.mem_map.1 hx
    exact wfU64 _ (hP q hq).1)
  have i2 := irow_blk b2 (P.map fun p => (p.2 : Int)) n hD (by rw [List.length_map]; exact hn) (by unfold maxLen; omega) (by
    intro x hx
    obtain ⟨q, hq, rfl⟩ := List.mem_map.1 hx
    exact wfI _ (by have := (hP q hq).2; omega))
  refine (RNumbers_c _ n ca _ n cb P hP (by omega) _ i1 i2).mono ?_
  rintro e w3 ⟨A, c, N, rfl, hown, hN, hb3⟩
  exact ⟨A, c, N, rfl, own_base2 hown (by simp; omega), hN, Below.then_ h2 hb3⟩
set_option maxHeartbeats 2000000 in
theorem RGreat_c (t : Tl) (ht : TlW t) (w : World) :
    Calls Try.prog 11 #[tlV t] w fun e w' => ∃ A c, e = .returned (.slice A 56 c) ∧ w'.ownsRow w.heap.size 5 1 (.slice A 56 c) 56 (cs (nsB (tlP1 t))) ∧ Below w.heap.size w w' := by
  have HP := Lib.hid (tlP1_ok ht)
  have HB := Lib.hid ((Below.refl w.heap.size w).alloc (Nat.le_refl _) (.cells (tlC t) 27))
  obtain ⟨h1, h2, h3, h4, h5, h6, h7, h8, h9⟩ := ht
  obtain ⟨di, st, he, co, sz, o, d6, ds, o6⟩ := t
  unfold two64 at *
  simp only at h1 h2 h3 h4 h5 h6 h7 h8 h9
  unfold tlV tlC at *
  go_enter Try.func11, Try.ntmps11
  go_wp2_with fail
  refine (tlNum_c _ HP.out 10 rfl (by omega) _ _ rfl rfl _ _ _ _ _ (by simp) (by simp) 10 10).mono ?_
  rintro e W2 ⟨A, c, N, rfl, hown, hN, hb2⟩
  have hN2 : N = 56 := hN.trans rfl
  clear hN
  subst hN2
  go_wp2
  go_ret
  exact ⟨A, c, rfl, own_base2 hown (by simp), HB.out.trans (hb2.mono (by simp))⟩
set_option maxHeartbeats 2000000 in
theorem RLocator_c (t : Tl) (ht : TlW t) (w : World) :
    Calls Try.prog 13 #[tlV t] w fun e w' => ∃ A c, e = .returned (.slice A 20 c) ∧ w'.ownsRow w.heap.size 5 1 (.slice A 20 c) 20 (cs (nsB (tlP2 t))) ∧ Below w.heap.size w w' := by
  have HP := Lib.hid (tlP2_ok ht)
  have HB := Lib.hid ((Below.refl w.heap.size w).alloc (Nat.le_refl _) (.cells (tlC t) 27))
  obtain ⟨h1, h2, h3, h4, h5, h6, h7, h8, h9⟩ := ht
  obtain ⟨di, st, he, co, sz, o, d6, ds, o6⟩ := t
  unfold two64 at *
  simp only at h1 h2 h3 h4 h5 h6 h7 h8 h9
  unfold tlV tlC at *
  go_enter Try.func13, Try.ntmps13
  go_wp2_with fail
  refine (tlNum_c _ HP.out 4 rfl (by omega) _ _ rfl rfl _ _ _ _ _ (by simp) (by simp) 4 4).mono ?_
  rintro e W2 ⟨A, c, N, rfl, hown, hN, hb2⟩
  have hN2 : N = 20 := hN.trans rfl
  clear hN
  subst hN2
  go_wp2
  go_ret
  exact ⟨A, c, rfl, own_base2 hown (by simp), HB.out.trans (hb2.mono (by simp))⟩
end Go.Proofs.Ythpgeehfmblbhaa
