/-
  LAW 10's OWN EXAMPLES (alive). No conditions.
-/
import Derived.Test.YtanhgjaokgnlhaaCanG
namespace Go.Proofs.Ytanhgjaokgnlhaa
open Go.RowKit
set_option maxRecDepth 100000
set_option linter.unusedVariables false

theorem irow_lit (w : World) (l : List Int) (n g : Nat) (hn : n = l.length) (hg : g = w.heap.size) (hl : l.length ≤ maxLen) (C : Array Value) (hC : C = (iC l).toArray) (t : TypeId) (hwf : ∀ i, i < n → (Lit.int .i64 (gi l i)).wf = true) : IRow (w.alloc (.cells C t)) (some ⟨g, 0, none⟩) n .i64 l := by
  subst hn hg hC
  refine ⟨rfl, hl, fun _ => ⟨w.heap.size, 0, rfl, by simp, fun i hi => ?_⟩, hwf⟩
  have h := heap_alloc_new w (.cells (iC l).toArray t)
  rw [Nat.zero_add, cell_of_row _ _ i _ t (0, 0) h]
  simpa using iC_at hi
theorem ex_wf4 : ∀ i, i < 4 → (Lit.int .i64 (gi [2, 1, 3, 3] i)).wf = true := by decide +kernel
theorem ex_wf3 : ∀ i, i < 3 → (Lit.int .i64 (gi [1, 1, 1] i)).wf = true := by decide +kernel
theorem ex_wf2 : ∀ i, i < 2 → (Lit.int .i64 (gi [2, 2] i)).wf = true := by decide +kernel
theorem ex_read : RdS [2, 1, 3, 3] (rb [ofN 27]) 8 0 2 3 0 := by
  refine ⟨fun k h1 h2 => ?_, .inl ⟨rfl, by decide, by decide, by decide, by decide +kernel, by decide +kernel⟩⟩
  have : k = 1 ∨ k = 2 := by omega
  rcases this with rfl | rfl <;> decide +kernel
set_option maxRecDepth 1000000 in
set_option maxHeartbeats 4000000 in
theorem alive10_c (w : World) : Calls Try.prog 8 #[] w fun e w' => e = .returned (.bool true) ∧ Below w.heap.size w w' := by
  have n0 : codeN [2, 1, 3, 3] 0 = 2 := by decide +kernel
  have n1 : codeN [2, 1, 3, 3] 1 = 0 := by decide +kernel
  have n2 : codeN [2, 1, 3, 3] 2 = 6 := by decide +kernel
  have n3 : codeN [2, 1, 3, 3] 3 = 7 := by decide +kernel
  have a3 : codeAt [2, 1, 3, 3] 3 = 7 := by decide +kernel
  have l3 : lenAt [2, 1, 3, 3] 3 = 3 := by decide +kernel
  go_enter Try.func8, Try.ntmps8
  go_wp2_with fail
  have hL1 := irow_lit w [2, 1, 3, 3] 4 w.heap.size rfl rfl (by decide) #[.int .i64 2, .int .i64 1, .int .i64 3, .int .i64 3] rfl 3 ex_wf4
  have hB1 : Below w.heap.size w (w.alloc (.cells #[.int .i64 2, .int .i64 1, .int .i64 3, .int .i64 3] 3)) := (Below.refl _ _).alloc (Nat.le_refl _) _
  generalize w.alloc (.cells #[.int .i64 2, .int .i64 1, .int .i64 3, .int .i64 3] 3) = w1 at *
  refine (Codes_ok _ 4 _ [2, 1, 3, 3] w1 hL1 (by decide +kernel)).mono ?_
  rintro e w2 ⟨gc, rfl, hc2, hb2⟩
  have hB2 := hB1.trans (hb2.mono hB1.size)
  have hL2 := hL1.below hb2
  clear hB1 hL1 hb2
  go_wp2_with fail
  have hc3 := own_below hc2 ((Below.refl w2.heap.size w2).alloc (Nat.le_refl _) (.cells #[.int .i64 1, .int .i64 1, .int .i64 1] 3))
  have hL3 := hL2.alloc (.cells #[.int .i64 1, .int .i64 1, .int .i64 1] 3)
  have hB3 := hB2.alloc hB2.size (.cells #[.int .i64 1, .int .i64 1, .int .i64 1] 3)
  have hM3 := irow_lit w2 [1, 1, 1] 3 w2.heap.size rfl rfl (by decide) #[.int .i64 1, .int .i64 1, .int .i64 1] rfl 3 ex_wf3
  clear hc2 hL2 hB2
  generalize w2.alloc (.cells #[.int .i64 1, .int .i64 1, .int .i64 1] 3) = w3 at *
  refine (Codes_no _ 3 _ [1, 1, 1] w3 hM3 (by decide +kernel)).mono ?_
  rintro e w4 ⟨rfl, hb4⟩
  rw [show errC [1, 1, 1] 3 = 30 by decide +kernel]
  have hB4 := hB3.trans (hb4.mono hB3.size)
  have hL4 := hL3.below hb4
  have hc4 := own_below hc3 hb4
  clear hB3 hL3 hc3 hM3 hb4
  go_wp2_with fail
  have hc5 := own_below hc4 ((Below.refl w4.heap.size w4).alloc (Nat.le_refl _) (.cells #[.int .i64 2, .int .i64 2] 3))
  have hL5 := hL4.alloc (.cells #[.int .i64 2, .int .i64 2] 3)
  have hB5 := hB4.alloc hB4.size (.cells #[.int .i64 2, .int .i64 2] 3)
  have hM5 := irow_lit w4 [2, 2] 2 w4.heap.size rfl rfl (by decide) #[.int .i64 2, .int .i64 2] rfl 3 ex_wf2
  clear hc4 hL4 hB4
  generalize w4.alloc (.cells #[.int .i64 2, .int .i64 2] 3) = w5 at *
  refine (Codes_no _ 2 _ [2, 2] w5 hM5 (by decide +kernel)).mono ?_
  rintro e w6 ⟨rfl, hb6⟩
  rw [show errC [2, 2] 2 = 31 by decide +kernel]
  have hB6 := hB5.trans (hb6.mono hB5.size)
  have hL6 := hL5.below hb6
  have hc6 := own_below hc5 hb6
  clear hB5 hL5 hc5 hM5 hb6
  go_wp2_with fail
  refine (New_ok _ 4 _ [2, 1, 3, 3] w6 hL6 (by decide +kernel)).mono ?_
  rintro e w7 ⟨p, gc7, LA, lc, S, rfl, hT7, hb7⟩
  have hB7 := hB6.trans (hb7.mono hB6.size)
  have hc7 := own_below hc6 hb7
  clear hB6 hc6 hb7 hL6
  go_wp2_with fail
  have hr8 := row_lit w7 [ofN 27] 1 w7.heap.size rfl rfl (by decide) #[.int .u8 27] rfl 5
  have hc8 := own_below hc7 ((Below.refl w7.heap.size w7).alloc (Nat.le_refl _) (.cells #[.int .u8 27] 5))
  have hT8 := hT7.below ((Below.refl w7.heap.size w7).alloc (Nat.le_refl _) (.cells #[.int .u8 27] 5))
  have hB8 := hB7.alloc hB7.size (.cells #[.int .u8 27] 5)
  clear hc7 hT7 hB7
  generalize w7.alloc (.cells #[.int .u8 27] 5) = w8 at *
  refine (ReadB_c _ 1 _ _ w8 hr8 (by omega)).mono ?_
  rintro e w9 ⟨r, A9, c9, rfl, hR9, hr9, hb9⟩
  have hc9 := own_below hc8 hb9
  have hT9 := hT8.below hb9
  have hB9 := hB8.trans (hb9.mono hB8.size)
  have hfar := hT8.far hr9
  have hrw : w.heap.size ≤ r := Nat.le_trans hB8.size hr9
  have hgr : gc ≠ r := by have := (hc8.lt gc rfl).2; omega
  clear hc8 hT8 hB8 hb9 hr8
  go_wp2_with fail
  refine (ReadT_c hT9 hR9 hfar).mono ?_
  rintro e w10 ⟨s, k, er, rfl, hrd, hR10, hO10⟩
  obtain ⟨rfl, rfl, rfl⟩ := RdS.unique (b := rb [ofN 27]) (l := [2, 1, 3, 3]) hT9.ok.right hT9.ok.fit hrd ex_read
  have hT10 := hT9.out hfar hO10
  have hB10 := hB9.trans (hO10.lowAt hrw hR9.lt)
  have hU10 : ∀ i, i < 4 → w10.cell? ⟨gc, i, none⟩ = some (.int .u32 ((codeN [2, 1, 3, 3] i : Nat) : Int)) := fun i hi => by
    rw [World.cell?_of_block (a := ⟨gc, i, none⟩) (hO10.block gc (hc9.lt gc rfl).2 (by omega)), hc9.cellAt i (by omega), us_at _ hi]
  have u0 := hU10 0 (by omega)
  have u1 := hU10 1 (by omega)
  have u2 := hU10 2 (by omega)
  have u3 := hU10 3 (by omega)
  rw [n0] at u0
  rw [n1] at u1
  rw [n2] at u2
  rw [n3] at u3
  have HCT := Lib.hid (CodeT_c hT10 3)
  rw [a3, l3] at HCT
  clear hU10 hc9 hT9 hB9 hrd hR10 hO10 hR9 hT10
  go_wp2_with fail
  refine HCT.out.mono ?_
  rintro e _ ⟨rfl, q, rfl⟩
  clear HCT n0 n1 n2 n3 a3 l3
  have hB11 := below_drewN hB10 q
  replace u0 : (w10.drewN q).cell? ⟨gc, 0, none⟩ = _ := u0
  replace u1 : (w10.drewN q).cell? ⟨gc, 1, none⟩ = _ := u1
  replace u2 : (w10.drewN q).cell? ⟨gc, 2, none⟩ = _ := u2
  replace u3 : (w10.drewN q).cell? ⟨gc, 3, none⟩ = _ := u3
  generalize w10.drewN q = w11 at *
  clear hB10
  go_wp2
  go_ret
  exact ⟨rfl, hB11⟩
end Go.Proofs.Ytanhgjaokgnlhaa
