/-
  LAW 13: rows of tokens that come in. No conditions.
-/
import Derived.Test.YtkjogejakenmeaaLaw13
namespace Go.Proofs.Ytkjogejakenmeaa
open Go.RowKit
set_option maxRecDepth 100000
set_option linter.unusedVariables false

section
open Go.ChangeShapes Go.WideShapes
variable {H : Type} {enc : TypeId × Value → H} {w : World} {base : Nat} {held : Bool}
theorem tg_map (f : Nat → Tok) (n i : Nat) (h : i < n) : tg ((List.range n).map f) i = f i := by
  simp [tg, List.getD, h]
theorem open_toks {fuel : Nat} {cs : List Value} {x : DataW H × List MemPlace} (h : DataW.trod enc Try.prog w base (fun _ => true) held fuel 22 cs = some x) :
    cs = [.slice none 0 0] ∨ ∃ (a : Addr) (len cap : Nat), cs = [.slice (some a) len cap] ∧ ∃ T, TRow w (some a) len T ∧ len ≤ cap ∧ cap ≤ 9223372036854775807 := by
  rcases Go.Deep.open_slice Try.underlying22 h with ⟨h0, _⟩ | ⟨a, len, cap, m, n, D, Pl, rfl, hb, hl, hm, hmm, hx, hi⟩
  · exact .inl h0
  · refine .inr ⟨a, len, cap, rfl, ?_⟩
    have hlm : len ≤ m := by rw [hmm]; split <;> omega
    have h4 : Try.prog.cellsOf 41 = 3 := by kernel_rfl
    have key : ∀ i, i < len → ∃ (t : Tok), w.cell? (a.add (i * 3)) = some (.int .u8 t.lit.n) ∧ w.cell? ((a.add (i * 3)).add 1) = some (.int .i64 t.len) ∧ w.cell? ((a.add (i * 3)).add 2) = some (.int .i64 t.dist) ∧ TokWf t := fun i hil => by
      obtain ⟨cs', hc, ht⟩ := hi i (by omega)
      rw [h4] at hc
      obtain ⟨_, hlen, hcell⟩ := World.cells?_some hc
      obtain ⟨ys, k, _, _, _, hyl, hf⟩ := DataW.trod_struct Try.underlying41 ht
      match cs', hlen with
      | [v0, v1, v2], _ =>
        match ys, hyl with
        | [y0, y1, y2], _ =>
          have e3 : Try.prog.cellsOf 3 = 1 := by kernel_rfl
          have e5 : Try.prog.cellsOf 5 = 1 := by kernel_rfl
          have g0 := hf 0 _ rfl
          change DataW.trod enc Try.prog w base (fun _ => true) held k 5 (([v0, v1, v2].drop 0).take (Try.prog.cellsOf 5)) = some y0 at g0
          rw [e5] at g0
          have g1 := hf 1 _ rfl
          change DataW.trod enc Try.prog w base (fun _ => true) held k 3 (([v0, v1, v2].drop 1).take (Try.prog.cellsOf 3)) = some y1 at g1
          rw [e3] at g1
          have g2 := hf 2 _ rfl
          change DataW.trod enc Try.prog w base (fun _ => true) held k 3 (([v0, v1, v2].drop 2).take (Try.prog.cellsOf 3)) = some y2 at g2
          rw [e3] at g2
          obtain ⟨z0, q0, _, w0⟩ := DataW.trod_int (k := .u8) Try.underlying5 (cs := [v0]) (x := y0) g0
          obtain ⟨z1, q1, _, w1⟩ := DataW.trod_int (k := .i64) Try.underlying3 (cs := [v1]) (x := y1) g1
          obtain ⟨z2, q2, _, w2⟩ := DataW.trod_int (k := .i64) Try.underlying3 (cs := [v2]) (x := y2) g2
          injection q0 with q0
          injection q1 with q1
          injection q2 with q2
          subst q0 q1 q2
          obtain ⟨z, rfl⟩ := byte_of w0
          have c0 := hcell 0 (by omega)
          have c1 := hcell 1 (by omega)
          have c2 := hcell 2 (by omega)
          have ea : (a.add (i * 3)).add 0 = a.add (i * 3) := by simp [Addr.add]
          rw [ea] at c0
          exact ⟨⟨z, z1, z2⟩, c0, c1, c2, w1, w2⟩
    haveI : Inhabited Tok := ⟨⟨0, 0, 0⟩⟩
    obtain ⟨f, hf⟩ := Go.Deep.choose_lt key
    refine ⟨(List.range len).map f, ⟨by simp, by omega, fun hn => ?_, fun i hil => by rw [tg_map f len i hil]; exact (hf i hil).2.2.2⟩, hl, by unfold maxLen at hm; exact hm⟩
    obtain ⟨b, off, spot⟩ := a
    have h0 := (hf 0 hn).1
    have hspot : spot = none := by simpa [Addr.add] using World.cell?_spot h0
    subst hspot
    refine ⟨b, off, rfl, World.block_lt_of_cell? w _ h0, fun i hil => ?_⟩
    obtain ⟨d0, d1, d2, _⟩ := hf i hil
    have e : ∀ o j, (⟨b, o, none⟩ : Addr).add j = ⟨b, o + j, none⟩ := fun o j => by unfold Addr.add; split <;> simp_all
    rw [e] at d0
    rw [e, e] at d1 d2
    rw [tg_map f len i hil]
    exact ⟨d0, d1, d2⟩
end
/-- what came out, and the code -/
def outF : Except Nat (List F) → List F × Nat
  | .error z => ([], z)
  | .ok o => (o, 0)
theorem ExEnd.one {w w' : World} {R : Except Nat (List F)} {e : Ending} (h : ExEnd w R e w') : ∃ (A : Option Addr) (n c : Nat), e = .returned (.tuple #[.slice A n c, .int .i64 ((outF R).2 : Nat)]) ∧ n = (outF R).1.length ∧ Row w' A n (outF R).1 ∧ Below w.heap.size w w' := by
  rcases h with ⟨z, rfl, rfl, hb⟩ | ⟨o, A, n, c, rfl, hn, rfl, hown, hb⟩
  · exact ⟨none, 0, 0, rfl, rfl, Row.nil _ none, hb⟩
  · exact ⟨A, n, c, rfl, hn, Row.of_own hown, hb⟩
set_option maxHeartbeats 2000000 in
theorem walk_MatchExpands (w : World) (A : Option Addr) (n c : Nat) (T : List Tok) (ht : TRow w A n T) (hnc : n ≤ c) (hcm : c ≤ 9223372036854775807) (v : Int) (hv : (Lit.int .i64 v).wf = true)
    (B : Option Addr) (m cb : Nat) (l : List F) (hl : RowIn w B m cb l) (i : Int) (hi : (Lit.int .i64 i).wf = true) (k : Int) (hk : (Lit.int .i64 k).wf = true) :
    Calls Try.prog 3 #[.slice A n c, .int .i64 v, .slice B m cb, .int .i64 i, .int .i64 k] w fun e w' => e = .returned (.bool true) ∧ Below w.heap.size w w' := by
  have hv2 := wf_i64 hv
  have hi2 := wf_i64 hi
  have hk2 := wf_i64 hk
  have hmm := hl.row.max
  have HAL := Lib.hid (alive13_c w)
  by_cases h1 : (60 : Int) < (n : Int)
  · go_enter Try.func3, Try.ntmps3
    go_wp2_with (go_at_call 8; refine HAL.out.mono ?_; rintro e w1 ⟨rfl, hb1⟩)
    go_ret
    exact ⟨rfl, hb1⟩
  by_cases h2 : (2000 : Int) < v
  · go_enter Try.func3, Try.ntmps3
    go_wp2_with (go_at_call 8; refine HAL.out.mono ?_; rintro e w1 ⟨rfl, hb1⟩)
    go_ret
    exact ⟨rfl, hb1⟩
  by_cases h3 : (600 : Int) < (m : Int)
  · go_enter Try.func3, Try.ntmps3
    go_wp2_with (go_at_call 8; refine HAL.out.mono ?_; rintro e w1 ⟨rfl, hb1⟩)
    go_ret
    exact ⟨rfl, hb1⟩
  have hn : n ≤ 60 := by omega
  have hm : m ≤ 600 := by omega
  obtain ⟨M, hM⟩ : ∃ M : Nat, max v 0 = (M : Int) := ⟨(max v 0).toNat, by omega⟩
  have hM2 : M ≤ 2000 := by omega
  have HM := Lib.hid hM
  have HL := Lib.hid hl
  have HT := Lib.hid ht
  obtain ⟨R, hR⟩ : ∃ R, R = outF (exF M T []) := ⟨_, rfl⟩
  have HR := Lib.hid hR
  obtain ⟨o, z⟩ := R
  have HO : Hid ((outF (exF M T [])).1 = o) := by unfold Hid; rw [← HR.out]
  have HZ : Hid ((outF (exF M T [])).2 = z) := by unfold Hid; rw [← HR.out]
  have HS : Hid (smZ l i k ≤ 258) := by
    unfold Hid smZ
    split
    · omega
    · exact (smF_is l _ _).le
  clear hl ht hM hv hi hk hR HR
  go_enter Try.func3, Try.ntmps3
  go_wp2_with fail
  refine HAL.out.mono ?_
  rintro e w1 ⟨rfl, hb1⟩
  have HB1 := Lib.hid hb1
  clear hb1
  go_wp2_with fail
  refine (MExp_c A n c T w1 (HT.out.below HB1.out) hnc hcm (by omega) v M HM.out (by omega)).mono ?_
  intro e w2 hE
  obtain ⟨A2, n2, c2, rfl, hn2, hr2, hb2⟩ := hE.one
  rw [HO.out] at hn2 hr2
  rw [HZ.out]
  have HR2 := Lib.hid hr2
  have HB2 := Lib.hid (HB1.out.trans (hb2.mono HB1.out.size))
  clear hE hr2 hb2
  go_wp2_with fail
  refine (RExp_c A n c T w2 (HT.out.below HB2.out) (by omega) v M HM.out (by omega)).mono ?_
  intro e w3 hE
  obtain ⟨A3, n3, c3, rfl, hn3, hr3, hb3⟩ := hE.one
  rw [HO.out] at hn3 hr3
  rw [HZ.out]
  subst hn3
  rw [← hn2] at hr3
  have HR3 := Lib.hid hr3
  have HR4 := Lib.hid (HR2.out.below hb3)
  have HB3 := Lib.hid (HB2.out.trans (hb3.mono HB2.out.size))
  have hzz : ((z : Int) == (z : Int)) = true := by simp
  rw [← hn2]
  clear hE hr3 hb3 hn2
  go_wp2_with fail
  refine (Same_c A2 A3 n2 c2 c3 o o w3 HR4.out HR3.out rfl).mono ?_
  rintro e w4 ⟨rfl, q4, rfl⟩
  have HB4 := Lib.hid (below_drewN HB3.out q4)
  generalize w3.drewN q4 = w4 at *
  go_wp2_with fail
  refine (MBytes_c A n c T w4 (HT.out.below HB4.out) (by omega)).mono ?_
  rintro e w5 ⟨rfl, hb5⟩
  have HB5 := Lib.hid (HB4.out.trans (hb5.mono HB4.out.size))
  clear hb5
  go_wp2_with fail
  refine (RBytes_c A n c T w5 (HT.out.below HB5.out) (by omega)).mono ?_
  rintro e w6 ⟨rfl, hb6⟩
  have HB6 := Lib.hid (HB5.out.trans (hb6.mono HB5.out.size))
  clear hb6
  generalize bysF T = y at *
  have hyy : ((y : Int) == (y : Int)) = true := by simp
  go_wp2_with fail
  refine (MSame_c B m cb l w6 (HL.out.below HB6.out) (by omega) i k (by omega) (by omega)).mono ?_
  rintro e w7 ⟨rfl, q7, rfl⟩
  have HB7 := Lib.hid (below_drewN HB6.out q7)
  generalize w6.drewN q7 = w7 at *
  go_wp2_with fail
  refine (RSame_c B m cb l w7 (HL.out.below HB7.out) (by omega) i k (by omega) (by omega)).mono ?_
  rintro e w8 ⟨rfl, q8, rfl⟩
  have HB8 := Lib.hid (below_drewN HB7.out q8)
  generalize w7.drewN q8 = w8 at *
  generalize smZ l i k = x at *
  have hxx : ((x : Int) == (x : Int)) = true := by simp
  go_wp2
  go_ret
  exact ⟨rfl, HB8.out⟩
end Go.Proofs.Ytkjogejakenmeaa
