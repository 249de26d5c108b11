/-
  A TABLE OF CODES BESIDE A WRITER; a symbol that is put. No conditions.
-/
import Derived.Test.YthnbflkoipnakaaGreatDoorBlka
import Derived.Test.YthnbflkoipnakaaGreatDoorCanE
namespace Go.Proofs.YthnbflkoipnakaaGreatDoor
open Go.RowKit
set_option maxRecDepth 1000000
set_option linter.unusedVariables false

/-- a table stays as it is while the writer writes -/
theorem TabIn.wout {w w' : World} {B q p n : Nat} {l : List Int} {gc : Nat} {LA : Option Addr} {lc : Nat} {S : Nat → Value} {a b : Option Nat} (h : TabIn w q n l gc LA lc S) (lo : TabLo B q gc LA S) (hO : WOut p a b w w') (hp : p < B) (ha : ∀ g, a = some g → g < B) : TabIn w' q n l gc LA lc S := by
  have hs := hO.size
  have hk : ∀ k, B ≤ k → k < w.heap.size → w'.heap[k]? = w.heap[k]? := fun k h1 h2 => hO.block k h2 (by omega) (fun e => by have := ha k e; omega)
  refine ⟨?_, fun i hi => ?_, ⟨h.lens.len, h.lens.max, fun hn => ?_, h.lens.wf⟩, fun j hj => ?_, h.ok, fun j hj g hg => by have := h.held j hj g hg; omega⟩
  · have h1 := h.blk
    unfold Blk at h1 ⊢
    rw [hk q lo.tab h.blk.lt]
    exact h1
  · obtain ⟨h1, h2⟩ := h.codes i hi
    exact ⟨by omega, (World.cell?_of_block (a := ⟨gc, i, none⟩) (hk gc lo.cod h1)).trans h2⟩
  · obtain ⟨b, off, e, hl, hc⟩ := h.lens.cells hn
    exact ⟨b, off, e, by omega, fun i hi => (World.cell?_of_block (a := ⟨b, off + i, none⟩) (hk b (lo.len b off e) hl)).trans (hc i hi)⟩
  · obtain ⟨O, c, h1, h2⟩ := h.rows j hj
    refine ⟨O, c, h1, fun i hi hij => ?_⟩
    obtain ⟨g, h3, h4, h5⟩ := h2 i hi hij
    exact ⟨g, h3, by omega, (World.cell?_of_block (a := ⟨g, cL l j i, none⟩) (hk g (lo.row j hj g (by rw [h1, h3]; rfl)) h4)).trans h5⟩
set_option maxHeartbeats 1000000 in
theorem putSymbol_c {w : World} {p : Nat} {A : Option Addr} {len cap m : Nat} {X : List Bool} (h : Wr w p A len cap m X) {B q n : Nat} {l : List Int} {gc : Nat} {LA : Option Addr} {lc : Nat} {S : Nat → Value}
    (ht : TabIn w q n l gc LA lc S) (s : Int) (hs : codeAt l s < 4294967296) (size : Int) (v : Nat) (hv : v < 4294967296) (hroom : m + 64 ≤ 1000000) :
    Calls Tryz.prog 67 #[.pointer (some ⟨p, 0, none⟩), .pointer (some ⟨q, 0, none⟩), .int .i64 s, .int .i64 size, .int .i64 v] w fun e w' => e = .returned (.tuple #[]) ∧ ∃ A' len' cap', Wr w' p A' len' cap' (m + heldN (lenAt l s) 32 + heldN size 32) (X ++ codeB (codeAt l s) (heldN (lenAt l s) 32) ++ putB v (heldN size 32)) ∧ WOut p (Value.slice A len cap).ownBlock (Value.slice A' len' cap').ownBlock w w' := by
  have H := Lib.hid h
  have HT := Lib.hid ht
  have hk1 := heldN_le (lenAt l s : Int) 32
  have HC := Lib.hid (CodeT_c ht s)
  clear h ht
  obtain ⟨cd, hcd⟩ : ∃ cd, cd = codeAt l s := ⟨_, rfl⟩
  obtain ⟨ln, hln⟩ : ∃ ln, ln = lenAt l s := ⟨_, rfl⟩
  rw [← hcd, ← hln] at HC
  rw [← hln] at hk1
  rw [← hcd] at hs
  rw [← hcd, ← hln]
  clear hcd hln
  go_enter Tryz.func67, Tryz.ntmps67
  go_wp2_with fail
  refine HC.out.mono ?_
  rintro e w2 ⟨rfl, q2, rfl⟩
  have HW2 := Lib.hid (H.out.drewN q2)
  have HO2 := Lib.hid ((WOut.refl p (Value.slice A len cap).ownBlock w).drewN q2)
  generalize w.drewN q2 = w2 at *
  go_wp2_with fail
  refine (CodeB_c HW2.out cd hs (ln : Int) (by omega)).mono ?_
  rintro e w3 ⟨rfl, A3, len3, cap3, hW3, hO3⟩
  have HW3 := Lib.hid hW3
  have HO3 := Lib.hid (HO2.out.trans hO3)
  clear hW3 hO3
  go_wp2_with fail
  refine (PutB_c HW3.out v hv size (by omega)).mono ?_
  rintro e w4 ⟨rfl, A4, len4, cap4, hW4, hO4⟩
  have HW4 := Lib.hid hW4
  have HO4 := Lib.hid (HO3.out.trans hO4)
  clear hW4 hO4
  go_wp2
  go_end0
  exact ⟨rfl, A4, len4, cap4, HW4.out, HO4.out⟩
/-- a table of lengths that fit -/
theorem newTableB_c (A : Option Addr) (n c : Nat) (l : List Int) (w : World) (h : IRow w A n .i64 l) (he : errC l n = 0) :
    Calls Tryz.prog 66 #[.slice A n c] w fun e w' => ∃ p gc LA lc S, e = .returned (.pointer (some ⟨p, 0, none⟩)) ∧ TabIn w' p n l gc LA lc S ∧ TabLo w.heap.size p gc LA S ∧ Below w.heap.size w w' := by
  have HN := Lib.hid (New_lo A n c l w h he)
  clear h he
  go_enter Tryz.func66, Tryz.ntmps66
  go_wp2_with fail
  refine HN.out.mono ?_
  rintro e w2 ⟨p, gc, LA, lc, S, rfl, h1, h2, h3⟩
  go_wp2
  go_ret
  exact ⟨p, gc, LA, lc, S, rfl, h1, h2, h3⟩
set_option maxHeartbeats 1000000 in
theorem newCodesB_c (A : Option Addr) (n c : Nat) (l : List Int) (B : Option Addr) (m d : Nat) (k : List Int) (w : World) (h : IRow w A n .i64 l) (he : errC l n = 0) (g : IRow w B m .i64 k) (ge : errC k m = 0) :
    Calls Tryz.prog 40 #[.slice A n c, .slice B m d] w fun e w' => ∃ p gc LA lc S q hc LB ld R, e = .returned (.agg #[.pointer (some ⟨p, 0, none⟩), .pointer (some ⟨q, 0, none⟩)]) ∧ TabIn w' p n l gc LA lc S ∧ TabLo w.heap.size p gc LA S ∧ TabIn w' q m k hc LB ld R ∧ TabLo w.heap.size q hc LB R ∧ Below w.heap.size w w' := by
  have HN := Lib.hid (fun W hb => newTableB_c A n c l W (h.below hb) he)
  have HM := Lib.hid (fun W hb => newTableB_c B m d k W (g.below hb) ge)
  clear h he g ge
  go_enter Tryz.func40, Tryz.ntmps40
  go_wp2_with fail
  refine (HN.out _ ((Below.refl _ w).alloc (Nat.le_refl _) _)).mono ?_
  rintro e w2 ⟨p, gc, LA, lc, S, rfl, h1, h2, h3⟩
  rw [World.size_alloc] at h2
  have HB := Lib.hid ((Blk.new w 69 #[.pointer none, .pointer none]).below (by simp) h3)
  have HT := Lib.hid h1
  have HLO := Lib.hid h2
  have HB2 : Hid (Below w.heap.size w w2) := ((Below.refl w.heap.size w).alloc (Nat.le_refl _) (.cells #[.pointer none, .pointer none] 69)).trans (h3.mono (by simp))
  have hs2 : w.heap.size + 1 ≤ w2.heap.size := by have := h3.size; rwa [World.size_alloc] at this
  clear h1 h2 h3
  go_wp2_with fail
  refine (HM.out w2 HB2.out).mono ?_
  rintro e w3 ⟨q, hc, LB, ld, R, rfl, h1, h2, h3⟩
  have HBB := Lib.hid (HB.out.below HB.out.lt h3)
  have HTT := Lib.hid (HT.out.below h3)
  have HU := Lib.hid h1
  have HLU : Hid (TabLo (w.heap.size + 1) q hc LB R) := ⟨Nat.le_trans hs2 h2.tab, Nat.le_trans hs2 h2.cod, fun b o e => Nat.le_trans hs2 (h2.len b o e), fun j hj g hg => Nat.le_trans hs2 (h2.row j hj g hg)⟩
  have HB3 := Lib.hid (HB2.out.trans (h3.mono HB2.out.size))
  clear h1 h2 h3 HB HT
  have f0 := HBB.out.frozen 0
  have f1 := HBB.out.frozen 1
  have c0 := HBB.out.cell 0
  have c1 := HBB.out.cell 1
  simp at c0 c1
  go_wp2
  have k2 := (HBB.out.set_ 0 (.pointer (some ⟨p, 0, none⟩))).set_ 1 (.pointer (some ⟨q, 0, none⟩))
  have hO : Hid (WOut w.heap.size none none w3 ((w3.setCell ⟨w.heap.size, 0, none⟩ (.pointer (some ⟨p, 0, none⟩))).setCell ⟨w.heap.size, 1, none⟩ (.pointer (some ⟨q, 0, none⟩)))) := ((WOut.refl w.heap.size none w3).setP 0 _).setP 1 _
  have HB4 : Hid (Below w.heap.size w ((w3.setCell ⟨w.heap.size, 0, none⟩ (.pointer (some ⟨p, 0, none⟩))).setCell ⟨w.heap.size, 1, none⟩ (.pointer (some ⟨q, 0, none⟩)))) := (HB3.out.setCell (Nat.le_refl _) _).setCell (Nat.le_refl _) _
  generalize (w3.setCell ⟨w.heap.size, 0, none⟩ (.pointer (some ⟨p, 0, none⟩))).setCell ⟨w.heap.size, 1, none⟩ (.pointer (some ⟨q, 0, none⟩)) = w4 at *
  have d0 := k2.cell 0
  have d1 := k2.cell 1
  simp at d0 d1
  have HT4 := Lib.hid (HTT.out.wout HLO.out hO.out (by omega) (fun g hg => by cases hg))
  have HU4 := Lib.hid (HU.out.wout HLU.out hO.out (by omega) (fun g hg => by cases hg))
  have HL4 : Hid (TabLo w.heap.size p gc LA S) := ⟨by have := HLO.out.tab; omega, by have := HLO.out.cod; omega, fun b o e => by have := HLO.out.len b o e; omega, fun j hj g hg => by have := HLO.out.row j hj g hg; omega⟩
  have HL5 : Hid (TabLo w.heap.size q hc LB R) := ⟨by have := HLU.out.tab; omega, by have := HLU.out.cod; omega, fun b o e => by have := HLU.out.len b o e; omega, fun j hj g hg => by have := HLU.out.row j hj g hg; omega⟩
  clear hO HBB k2 HN HM
  refine bodyPost_ret (v := .agg #[.pointer (some ⟨p, 0, none⟩), .pointer (some ⟨q, 0, none⟩)]) (by simp [results, Tryz.results40, go_sem, d0, d1]) rfl ?_
  exact ⟨p, gc, LA, lc, S, q, hc, LB, ld, R, rfl, HT4.out, HL4.out, HU4.out, HL5.out, HB4.out⟩
end Go.Proofs.YthnbflkoipnakaaGreatDoor
