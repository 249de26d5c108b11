/-
  LAW 13: the law's own example, as a walk. No conditions.
-/
import Derived.Test.YtkjogejakenmeaaMco
import Derived.Lib.SlBytesConst
namespace Go.Proofs.Ytkjogejakenmeaa
open Go.RowKit
set_option maxRecDepth 1000000
set_option linter.unusedVariables false

def exS : List F := [ofN 97, ofN 98, ofN 99, ofN 97, ofN 98, ofN 99, ofN 97, ofN 98, ofN 99]
def exT : List Tok := [⟨ofN 97, 0, 0⟩, ⟨ofN 98, 0, 0⟩, ⟨ofN 99, 0, 0⟩, ⟨ofN 0, 6, 3⟩]
theorem exT_is : fdF exS 9 = exT := by kernel_rfl
theorem exT_ok : exF 9 exT [] = .ok exS := by kernel_rfl
theorem exT_no : exF 8 exT [] = .error 6 := by kernel_rfl
theorem exU_no : exF 9 [⟨ofN 0, 3, 1⟩] [] = .error 35 := by kernel_rfl
theorem exV_no : exF 9 [⟨ofN 0, 2, 1⟩] [] = .error 23 := by kernel_rfl
theorem exW_is : (fdF [ofN 97, ofN 97, ofN 97, ofN 97] 0).length = 4 := fdF_zero _
theorem exB_is : bysF exT = 9 := by decide +kernel
theorem exM_is : smZ [ofN 97, ofN 98, ofN 97, ofN 98] 0 2 = 2 := by kernel_rfl
/-- a token alone, laid by the call -/
theorem row_tok (w : World) (x : F) (hx : (x.n : Int) = 0) (a b : Int) (hw : TokWf ⟨x, a, b⟩) : TRow (w.alloc (.cells #[.int .u8 0, .int .i64 a, .int .i64 b] 41)) (some ⟨w.heap.size, 0, none⟩) 1 [⟨x, a, b⟩] := by
  refine ⟨rfl, by unfold maxLen; omega, fun _ => ⟨w.heap.size, 0, rfl, by simp, fun i hi => ?_⟩, fun i hi => ?_⟩
  · obtain rfl : i = 0 := by omega
    obtain ⟨⟨c0, c1, c2⟩, _⟩ := (Blk.new w 41 #[.int .u8 0, .int .i64 a, .int .i64 b]).three
    refine ⟨?_, c1, c2⟩
    rw [show (tg [⟨x, a, b⟩] 0).lit = x from rfl, hx]
    exact c0
  · obtain rfl : i = 0 := by omega
    exact hw
theorem own3_cap {w : World} {base n c : Nat} {e : TypeId} {A : Option Addr} {xs : List Value} (h : w.ownsRow base e 3 (.slice A n c) n xs) : n ≤ c ∧ c ≤ 9223372036854775807 := by
  rcases h.2 with ⟨hv, h0⟩ | ⟨g, cap, cur, hv, _, _, h1, h2, _⟩
  · injection hv with _ _ h3
    subst h0 h3
    exact ⟨Nat.le_refl _, by omega⟩
  · injection hv with _ _ h3
    subst h3
    exact ⟨h1, by unfold maxLen at h2; exact h2⟩
theorem row_litM (w : World) (l : List F) (n g : Nat) (hn : n = l.length) (hg : g = w.heap.size) (hl : l.length ≤ maxLen) (C : Array Value) (hC : C = (cs l).toArray) (t : TypeId) (fz : Nat × Nat) : Row (w.alloc (.cells C t fz)) (some ⟨g, 0, none⟩) n l := by
  subst hn hg hC
  refine ⟨rfl, hl, fun _ => ⟨w.heap.size, 0, rfl, by simp, fun i hi => ?_⟩⟩
  have h := heap_alloc_new w (.cells (cs l).toArray t fz)
  rw [Nat.zero_add, cell_of_row _ _ i _ t fz h]
  simpa using cs_at hi
set_option maxHeartbeats 4000000 in
theorem alive13_c (w : World) : Calls Try.prog 8 #[] w fun e w' => e = .returned (.bool true) ∧ Below w.heap.size w w' := by
  have hcv := fun (w : World) (C : Array Value) (n c : Nat) => Lib.run_convert_bytes_const (P := Try.prog) w 23 5 C n c Try.underlying23 Try.underlying5
  go_enter Try.func8, Try.ntmps8
  go_wp2_with fail
  refine (Find_c (some ⟨w.heap.size, 0, none⟩) 9 9 exS _ (Row.in_ (row_litM w exS 9 w.heap.size rfl rfl (by decide) #[.int .u8 97, .int .u8 98, .int .u8 99, .int .u8 97, .int .u8 98, .int .u8 99, .int .u8 97, .int .u8 98, .int .u8 99] rfl 5 (9, 10))) (by omega) 9 9 (by decide)).mono ?_
  rintro e w1 ⟨A1, c1, N1, rfl, hN1, hown1, hb1⟩
  rw [exT_is] at hN1 hown1
  obtain rfl : N1 = 4 := hN1
  obtain ⟨hc1, hc2⟩ := own3_cap hown1
  have hT1 := TRow.ofOwn hown1 rfl (by unfold maxLen; omega) (by unfold TokWf; decide +kernel)
  have HT1 := Lib.hid hT1
  have HB1 := Lib.hid (belT hb1)
  clear hown1 hb1 hT1
  go_wp2_with fail
  refine (MExp_c A1 4 c1 exT w1 HT1.out hc1 hc2 (by omega) 9 9 (by decide) (by omega)).mono ?_
  rintro e w2 (⟨z, g1, _⟩ | ⟨o, A2, n2, c2, g1, g2, rfl, g3, g4⟩)
  · rw [exT_ok] at g1; cases g1
  rw [exT_ok] at g1
  injection g1 with g1
  subst g1
  have hn2 : n2 = 9 := g2
  clear g2
  subst hn2
  have HO2 := Lib.hid g3
  have HT2 := Lib.hid (HT1.out.below g4)
  have HB2 := Lib.hid (HB1.out.trans (g4.mono HB1.out.size))
  clear g3 g4
  go_wp2_with fail
  refine (MExp_c A1 4 c1 exT w2 HT2.out hc1 hc2 (by omega) 8 8 (by decide) (by omega)).mono ?_
  rintro e w3 (⟨z, g1, rfl, g4⟩ | ⟨o, A3, n3, c3, g1, _⟩)
  · rw [exT_no] at g1
    injection g1 with g1
    subst g1
    have HO3 := Lib.hid (own_below HO2.out g4)
    have HT3 := Lib.hid (HT2.out.below g4)
    have HB3 := Lib.hid (HB2.out.trans (g4.mono HB2.out.size))
    clear g4
    go_wp2_with fail
    refine (MExp_c _ 1 1 [⟨ofN 0, 3, 1⟩] _ (row_tok w3 (ofN 0) (by decide) 3 1 (by unfold TokWf; decide)) (by omega) (by omega) (by omega) 9 9 (by decide) (by omega)).mono ?_
    rintro e w4 (⟨z, g1, rfl, g4⟩ | ⟨o, A3, n3, c3, g1, _⟩)
    · rw [exU_no] at g1
      injection g1 with g1
      subst g1
      have HO4 := Lib.hid (own_below HO3.out (belT g4))
      have HT4 := Lib.hid (HT3.out.below (belT g4))
      have HB4 := Lib.hid (HB3.out.trans ((belT g4).mono HB3.out.size))
      clear g4
      go_wp2_with fail
      refine (MExp_c _ 1 1 [⟨ofN 0, 2, 1⟩] _ (row_tok w4 (ofN 0) (by decide) 2 1 (by unfold TokWf; decide)) (by omega) (by omega) (by omega) 9 9 (by decide) (by omega)).mono ?_
      rintro e w5 (⟨z, g1, rfl, g4⟩ | ⟨o, A3, n3, c3, g1, _⟩)
      · rw [exV_no] at g1
        injection g1 with g1
        subst g1
        have HO5 := Lib.hid (own_below HO4.out (belT g4))
        have HT5 := Lib.hid (HT4.out.below (belT g4))
        have HB5 := Lib.hid (HB4.out.trans ((belT g4).mono HB4.out.size))
        clear g4
        obtain ⟨b, off, rfl, hl, d0, d1, d2⟩ := HT5.out.at_ (i := 3) (by omega)
        have r1 := run_row_string c2 (Row.of_own HO5.out)
        have d0' : w5.cell? ⟨b, off + 3 * 3, none⟩ = some (.int .u8 0) := d0
        have d1' : w5.cell? ⟨b, off + 3 * 3 + 1, none⟩ = some (.int .i64 6) := d1
        have d2' : w5.cell? ⟨b, off + 3 * 3 + 2, none⟩ = some (.int .i64 3) := d2
        have e9 : strB exS = { data := #[97, 98, 99, 97, 98, 99, 97, 98, 99] } := by decide +kernel
        clear d0 d1 d2
        rw [e9] at r1
        go_wp2_with fail
        refine (MSame_c _ 4 4 [ofN 97, ofN 98, ofN 97, ofN 98] _ (Row.in_ (row_litM w5 [ofN 97, ofN 98, ofN 97, ofN 98] 4 w5.heap.size rfl rfl (by decide) #[.int .u8 97, .int .u8 98, .int .u8 97, .int .u8 98] rfl 5 (4, 5))) (by omega) 0 2 (by omega) (by omega)).mono ?_
        rintro e w6 ⟨rfl, q6, rfl⟩
        rw [exM_is]
        have HB6 : Hid (Below w5.heap.size w5 ((w5.alloc (.cells #[.int .u8 97, .int .u8 98, .int .u8 97, .int .u8 98] 5 (4, 5))).drewN q6)) := below_drewN ((Below.refl _ _).alloc (Nat.le_refl _) _) q6
        have HT6 := Lib.hid (HT5.out.below HB6.out)
        have HB7 := Lib.hid (HB5.out.trans (HB6.out.mono HB5.out.size))
        generalize (w5.alloc (.cells #[.int .u8 97, .int .u8 98, .int .u8 97, .int .u8 98] 5 (4, 5))).drewN q6 = W6 at *
        clear r1 d0' d1' d2'
        go_wp2_with fail
        refine (MBytes_c _ 4 c1 exT W6 HT6.out (by omega)).mono ?_
        rintro e w7 ⟨rfl, hb7⟩
        rw [exB_is]
        have HB8 := Lib.hid (HB7.out.trans (hb7.mono HB7.out.size))
        clear hb7
        go_wp2_with fail
        refine (Find_c (some ⟨w7.heap.size, 0, none⟩) 4 4 [ofN 97, ofN 97, ofN 97, ofN 97] _ (Row.in_ (row_litM w7 [ofN 97, ofN 97, ofN 97, ofN 97] 4 w7.heap.size rfl rfl (by decide) #[.int .u8 97, .int .u8 97, .int .u8 97, .int .u8 97] rfl 5 (4, 5))) (by omega) 0 0 (by decide)).mono ?_
        rintro e w8 ⟨A8, c8, N8, rfl, hN8, hown8, hb8⟩
        rw [exW_is] at hN8
        subst hN8
        have HB9 := Lib.hid (HB8.out.trans ((belT hb8).mono HB8.out.size))
        clear hb8 hown8
        go_wp2
        go_ret
        exact ⟨rfl, HB9.out⟩
      · rw [exV_no] at g1; cases g1
    · rw [exU_no] at g1; cases g1
  · rw [exT_no] at g1; cases g1
end Go.Proofs.Ytkjogejakenmeaa
