/-
  THE CONTRACTS OF THE DOCUMENT's OWN ANSWERS FOR LAYER 12: lengths. No conditions.
-/
import Derived.Test.YtldgdofefcehnaaGreatDoorInfT
import Derived.Deep.DeepCutAuto
namespace Go.Proofs.YtldgdofefcehnaaGreatDoor
open Go.RowKit
set_option maxRecDepth 100000
set_option linter.unusedVariables false
theorem Bx.setFar {w : World} {H : Nat} {B : Option Addr} {nb cb : Nat} {X : Option Addr} {nx cx : Nat} {l : List F} {M : Nat} {most : Int} {a0 : Option Nat} {wr : World} {A : Option Addr} {n c : Nat} {u : Un} {av E : Int}
  (h : Bx w H B nb cb X nx cx l M most a0 wr A n c u av E) {p : Nat} (hp : w.heap.size + 2 ≤ p) (hne : (Value.slice A n c).ownBlock ≠ some p) (D : Array Value) : Bx w H B nb cb X nx cx l M most a0 (wr.setRow p D) A n c u av E :=
 ⟨(blk_setRow_other (by omega) D).trans h.k1, (blk_setRow_other (by omega) D).trans h.k2, h.st.setRow (by have := h.hH; omega) hne D, h.out.setRow (by omega) D, h.np, h.hH⟩
theorem ob {g n c x : Nat} (h : (Value.slice (some ⟨g, 0, none⟩) n c).ownBlock = some x) : g = x := by simpa [Value.ownBlock] using h
theorem own_grow {wr w' : World} {base n c : Nat} {e : TypeId} {A : Option Addr} {xs : List Value} (h : wr.ownsRow base e 1 (.slice A n c) n xs) (hb : Below wr.heap.size wr w') : w'.ownsRow base e 1 (.slice A n c) n xs := own_blk h fun k hk => hb.block k (h.lt k hk).2
theorem iC_snoc (row : List Int) (j : Nat) (y : Int) : iC (row ++ List.replicate j y) ++ [Value.int .i64 y] = iC (row ++ List.replicate (j + 1) y) := by
 rw [List.replicate_succ', ← List.append_assoc, iC_append (row ++ List.replicate j y)]; rfl
section
variable {w : World} {H : Nat} {B : Option Addr} {nb cb : Nat} {X : Option Addr} {nx cx : Nat} {l : List F} {A : Option Addr} {n c : Nat} {u : Un} {M : Nat} {most : Int}
def RLEnd (w : World) (B : Option Addr) (nb cb : Nat) (X : Option Addr) (nx cx : Nat) (l : List F) (A : Option Addr) (n c : Nat) (u : Un) (most : Int) (cl : List Int) (k many : Nat) (e : Ending) (w' : World) : Prop :=
 (∃ (z : Nat) (av : Int) (V : Value), (errC cl k ≠ 0 ∧ z = errC cl k ∨ errC cl k = 0 ∧ lensF l cl many (many + 1) [] u = .error z) ∧ e = .returned (.tuple #[sV B nb cb X nx cx av A n c most z, V]) ∧ Below w.heap.size w w') ∨
 (∃ (row : List Int) (u' : Un) (RA : Option Addr) (rc : Nat), errC cl k = 0 ∧ lensF l cl many (many + 1) [] u = .ok (row, u') ∧ row.length = many ∧ Small row ∧ u'.out = u.out ∧ u'.at_ ≤ 8 * nb ∧ e = .returned (.tuple #[sV B nb cb X nx cx u'.at_ A n c most 0, .slice RA many rc]) ∧ w'.ownsRow w.heap.size 3 1 (.slice RA many rc) many (iC row) ∧ Below w.heap.size w w')
structure LnR (w : World) (H : Nat) (B : Option Addr) (nb cb : Nat) (X : Option Addr) (nx cx : Nat) (l : List F) (A : Option Addr) (n c : Nat) (u : Un) (M : Nat) (most : Int) (LA : Option Addr) (k gc : Nat) (cl : List Int) (wr : World) (g t cbb : Nat) (row : List Int) (uu : Un) (av E : Int) : Prop where
 small : Small row
 own : wr.ownsRow (w.heap.size + 2) 3 1 (.slice (some ⟨g, 0, none⟩) t cbb) t (iC row)
 bx : Bx w H B nb cb X nx cx l M most (Value.slice A n c).ownBlock wr A n c uu av E
 tb : RTb wr (Value.slice A n c).ownBlock LA k gc cl
 ne : g ≠ gc
 gc2 : w.heap.size + 2 ≤ gc
 lo : ∀ b o, LA = some ⟨b, o, none⟩ → b < w.heap.size
 loA : ∀ x, (Value.slice A n c).ownBlock = some x → x < w.heap.size
 out : uu.out = u.out
 bel : Below w.heap.size w wr
namespace LnR
variable {LA : Option Addr} {k gc : Nat} {cl : List Int} {wr w' : World} {g t cbb : Nat} {row : List Int} {uu uu' : Un} {av E : Int}
theorem below (h : LnR w H B nb cb X nx cx l A n c u M most LA k gc cl wr g t cbb row uu av E) (hb : Below wr.heap.size wr w') : LnR w H B nb cb X nx cx l A n c u M most LA k gc cl w' g t cbb row uu av E :=
 ⟨h.small, own_grow h.own hb, h.bx.below hb, h.tb.rout (ROut.ofBelow hb), h.ne, h.gc2, h.lo, h.loA, h.out, h.bel.trans (hb.mono h.bel.size)⟩
theorem drewN (h : LnR w H B nb cb X nx cx l A n c u M most LA k gc cl wr g t cbb row uu av E) (q : Nat) : LnR w H B nb cb X nx cx l A n c u M most LA k gc cl (wr.drewN q) g t cbb row uu av E :=
 h.below (w' := wr.drewN q) (below_drewN (Below.refl _ _) q)
theorem get (h : LnR w H B nb cb X nx cx l A n c u M most LA k gc cl wr g t cbb row uu av E) (ho : uu'.out = uu.out) (ha : uu'.at_ ≤ 8 * nb) (av' E' : Int) :
  LnR w H B nb cb X nx cx l A n c u M most LA k gc cl (wr.setRow w.heap.size #[.slice B nb cb, .slice X nx cx, .int .i64 av', .slice A n c, .int .i64 most, .int .i64 E']) g t cbb row uu' av' E' :=
 have hg := h.own.lt g rfl
 ⟨h.small, own_blk h.own (fun x hx => blk_setRow_other (by have := ob hx; omega) _), h.bx.get (Below.refl _ _) ho ha av' E', h.tb.setRow (by have := h.gc2; omega) (fun b o e => by have := h.lo b o e; omega) _, h.ne, h.gc2, h.lo, h.loA, ho.trans h.out, below_setRow h.bel (Nat.le_refl _) _⟩
theorem setFar (h : LnR w H B nb cb X nx cx l A n c u M most LA k gc cl wr g t cbb row uu av E) {p : Nat} (hp : w.heap.size + 2 ≤ p) (hne : (Value.slice A n c).ownBlock ≠ some p) (hg : p ≠ g) (hgc : p ≠ gc) (D : Array Value) :
  LnR w H B nb cb X nx cx l A n c u M most LA k gc cl (wr.setRow p D) g t cbb row uu av E :=
 ⟨h.small, own_blk h.own (fun x hx => blk_setRow_other (by have := ob hx; omega) _), h.bx.setFar hp hne D, h.tb.setRow (fun e => hgc e.symm) (fun b o e => by have := h.lo b o e; omega) _, h.ne, h.gc2, h.lo, h.loA, h.out, below_setRow h.bel (by omega) _⟩
theorem grow (h : LnR w H B nb cb X nx cx l A n c u M most LA k gc cl wr g t cbb row uu av E) {o : Obj} {g' t' c' : Nat} {row' : List Int} (hs : Small row') (hown : w'.ownsRow (w.heap.size + 2) 3 1 (.slice (some ⟨g', 0, none⟩) t' c') t' (iC row'))
  (hg : (wr.alloc o).grownBy w' (Value.slice (some ⟨g, 0, none⟩) t cbb).ownBlock) (hat : (Value.slice (some ⟨g, 0, none⟩) t cbb).ownBlock = some g' ∨ g' = (wr.alloc o).heap.size) : LnR w H B nb cb X nx cx l A n c u M most LA k gc cl w' g' t' c' row' uu av E := by
 have hgl := h.own.lt g rfl
 have hgw : (Value.slice (some ⟨g, 0, none⟩) t cbb).ownBlock = some g := rfl
 have hbl : ∀ x, x < wr.heap.size → x ≠ g → w'.heap[x]? = wr.heap[x]? := fun x hx hn => by
  rw [hg.block x (by simp; omega) (fun e => by rw [hgw] at e; injection e with e; omega)]
  exact Below.heap_alloc _ _ _ hx
 have hsz : wr.heap.size ≤ w'.heap.size := by have := hg.size; rw [World.size_alloc] at this; omega
 have hbel : Below (w.heap.size + 2) wr w' := ⟨hg.os, hg.tape, hg.output, hsz, fun x hx => hbl x (by omega) (by omega)⟩
 have hrow := h.tb.row
 have hg2 := hgl.1
 refine ⟨hs, hown, ⟨?_, ?_, ⟨?_, ?_, ?_, h.bx.st.lob, h.bx.st.lox, Nat.le_trans h.bx.st.here hsz, h.bx.st.few, h.bx.st.at_le⟩, ⟨hg.os.trans h.bx.out.os, hg.tape.trans h.bx.out.tape, hg.output.trans h.bx.out.output, Nat.le_trans h.bx.out.size hsz, fun x hx hn => (hbel.block x (by omega)).trans (h.bx.out.block x hx hn), h.bx.out.nw⟩, h.bx.np, h.bx.hH⟩,
  ⟨⟨hrow.len, hrow.max, fun hn => ?_, hrow.wf⟩, fun i hi => ⟨Nat.lt_of_lt_of_le h.tb.apg.1 hsz, ?_⟩, h.tb.ok, fun b o e => ⟨Nat.lt_of_lt_of_le (h.tb.apr b o e).1 hsz, (h.tb.apr b o e).2⟩, Nat.lt_of_lt_of_le h.tb.apg.1 hsz, h.tb.apg.2⟩, ?_, h.gc2, h.lo, h.loA, h.out, h.bel.trans (hbel.mono (by omega))⟩
 ·have hk := h.bx.k1
  unfold Blk at hk ⊢
  rw [hbel.block _ (by omega)]; exact hk
 ·have hk := h.bx.k2
  unfold Blk at hk ⊢
  rw [hbel.block _ (by omega)]; exact hk
 ·exact h.bx.st.brow.lowH (hbel.mono (by have := h.bx.hH; omega)) h.bx.st.lob
 ·exact h.bx.st.bits.lowH (hbel.mono (by have := h.bx.hH; omega)) h.bx.st.lox
 ·exact own_blk h.bx.st.own fun x hx => hbel.block x (by have := h.loA x hx; omega)
 ·obtain ⟨b', o', e, hl, hc⟩ := hrow.cells hn
  refine ⟨b', o', e, Nat.lt_of_lt_of_le hl hsz, fun i hi => ?_⟩
  rw [World.cell?_of_block (a := ⟨b', o' + i, none⟩) (hbel.block b' (by have := h.lo b' o' e; omega))]
  exact hc i hi
 ·rw [World.cell?_of_block (a := ⟨gc, i, none⟩) (hbl gc h.tb.apg.1 (fun e => h.ne e.symm))]
  exact (h.tb.codes i hi).2
 ·rcases hat with e | e
  ·rw [hgw] at e; injection e with e; have := h.ne; omega
  ·rw [World.size_alloc] at e; have := h.tb.apg.1; omega
end LnR
set_option maxHeartbeats 8000000 in
theorem rlengths_c (h : RSt w H B nb cb X nx cx l A n c u M) {LA : Option Addr} {k ck many : Nat} {cl : List Int} (hL : RLn w (Value.slice A n c).ownBlock LA k cl) (hk : k ≤ 19) (hm : many ≤ 1000) (hm1 : 1 ≤ many) :
  Calls Tryz.prog 95 #[sV B nb cb X nx cx u.at_ A n c most 0, .slice LA k ck, .int .i64 many] w fun e w' => RLEnd w B nb cb X nx cx l A n c u most cl k many e w' := by
 obtain ⟨i0, hi, hz0, hz1, hz2⟩ := info_parts info_int
 have HB0 := Lib.hid (Bx.start (most := most) h u.at_ 0)
 have hown := fun g hg => (h.own.lt g hg).2
 have HLA : Hid (∀ b o, LA = some ⟨b, o, none⟩ → b < w.heap.size) := fun b o e => (hL.apr b o e).1
 unfold sV
 obtain ⟨av, hav⟩ : ∃ av, av = u.at_ := ⟨_, rfl⟩
 rw [← hav] at HB0 ⊢
 have HAV := Lib.hid hav
 obtain ⟨T0, hT0⟩ : ∃ T0, T0 = ((w.alloc (.cells #[.slice B nb cb, .slice X nx cx, .int .i64 av, .slice A n c, .int .i64 most, .int .i64 0] 80)).alloc (.cells #[.slice none 0 0, .slice none 0 0, .int .i64 0, .slice none 0 0, .int .i64 0, .int .i64 0] 80)) := ⟨_, rfl⟩
 have hb0 : Below w.heap.size w T0 := by rw [hT0]; exact ((Below.refl _ _).alloc (Nat.le_refl _) _).alloc (by simp) _
 have hs0 : T0.heap.size = w.heap.size + 2 := by rw [hT0]; simp
 have hL0 := hL.below hb0
 have HC1 := Lib.hid (RefCodes_c LA k ck cl T0 hL0.row)
 rw [← hT0] at HB0
 have HL0 := Lib.hid hL0
 have HLK := Lib.hid hL.row.len
 have HOWN := Lib.hid hown
 have HS0 := Lib.hid hs0
 have HBL0 := Lib.hid hb0
 go_enter Tryz.func95, Tryz.ntmps95
 clear h hL hL0 hav hown hs0 hb0
 go_wp2_with fail
 rw [← hT0]
 clear hT0
 refine HC1.out.mono ?_
 rintro e w1 (⟨he, rfl, rfl⟩ | ⟨he, gc, rfl, hown1, hb1⟩)
 ·obtain ⟨z, hz⟩ : ∃ z, z = errC cl k := ⟨_, rfl⟩
  rw [← hz] at he ⊢
  have hz1 : ((z : Int) != 0) = true := by rw [bne_iff_ne]; omega
  have HR : Hid (errC cl k ≠ 0 ∧ z = errC cl k) := by unfold Hid; rw [← hz]; exact ⟨he, rfl⟩
  have hB := HB0.out.err z
  have hBB : Below w.heap.size w (T0.setCell ⟨w.heap.size, 5, none⟩ (.int .i64 z)) := HBL0.out.setCell (Nat.le_refl _) _
  have t2 := hB.ld
  have t3 := hB.stq
  obtain ⟨⟨c0, c1, c2, c3, c4, c5⟩, f0, f1, f2, f3, f4, f5⟩ := HB0.out.k1.six
  have HB := Lib.hid hB
  have HBB := Lib.hid hBB
  clear he hz hB HC1 hBB
  go_wp2_with (first
   | (with_reducible refine wpList_ld t2 (by with_unfolding_all rfl) ?_)
   | (with_reducible refine wpList_st t3 (by with_unfolding_all rfl) (by with_unfolding_all rfl) ?_))
  obtain ⟨z0, z1, z2, z3, z4, z5⟩ := HB.out.q6 (.slice B nb cb) (.slice X nx cx) (.int .i64 av) (.slice A n c) (.int .i64 most) (.int .i64 z)
  refine bodyPost_ret (v := .tuple #[.agg #[.slice B nb cb, .slice X nx cx, .int .i64 av, .slice A n c, .int .i64 most, .int .i64 z], .slice none 0 0]) (by simp [results, Tryz.results95, go_sem, z0, z1, z2, z3, z4, z5]) rfl ?_
  exact .inl ⟨z, _, _, .inl HR.out, rfl, below_setRow HBB.out (by omega) _⟩
 ·have hTB := HL0.out.tab hb1 (fun g hg => by have := HOWN.out g hg; have := HS0.out; omega) hown1 he
  have hB1 := (HB0.out.below hb1).below ((Below.refl _ w1).alloc (Nat.le_refl _) (.cells #[] 3))
  have hT1 := hTB.1.rout (ROut.ofBelow ((Below.refl _ w1).alloc (Nat.le_refl _) (.cells #[] 3)))
  have hg0 : (w1.alloc (.cells #[] 3)).ownsRow (w.heap.size + 2) 3 1 (.slice (some ⟨w1.heap.size, 0, none⟩) 0 0) 0 [] := World.ownsRow_made w1 #[] 0 (by have := hb1.size; have := HS0.out; omega) (Nat.zero_le _) rfl
  have hbl1 : Below w.heap.size w (w1.alloc (.cells #[] 3)) := (HBL0.out.trans (hb1.mono (by have := HS0.out; omega))).alloc (by have := hb1.size; have := HS0.out; omega) _
  rw [HAV.out] at hB1
  have hR0 : LnR w H B nb cb X nx cx l A n c u M most LA k gc cl (w1.alloc (.cells #[] 3)) w1.heap.size 0 0 [] u u.at_ 0 :=
   ⟨fun i hi => absurd hi (by simp), hg0, hB1, hT1, by have := hTB.1.apg.1; omega, by have := hTB.2; have := HS0.out; omega, HLA.out, HOWN.out, rfl, hbl1⟩
  have HR0 := Lib.hid hR0
  have HE0 := Lib.hid he
  have HKK : Hid (cl.length ≤ 19 ∧ cl.length = k) := ⟨by rw [HLK.out]; exact hk, HLK.out⟩
  clear hTB hB1 hT1 hg0 hbl1 hR0 he hown1 hb1 HC1
  go_wp2
  generalize w1.alloc (.cells #[] 3) = W1 at *
  generalize w1.heap.size = g0 at *
  go_loopg [10] (many + 1) (fun gk v wr => ∃ (t g cbb : Nat) (row : List Int) (uu : Un), v = .slice (some ⟨g, 0, none⟩) t cbb ∧ t ≤ many + 200 ∧ Hid (many + 1 ≤ gk + t) ∧ Hid (LnR w H B nb cb X nx cx l A n c u M most LA k gc cl wr g t cbb row uu uu.at_ 0) ∧ Hid (t ≤ many ∧ lensF l cl many gk row uu = lensF l cl many (many + 1) [] u ∨ many < t ∧ lensF l cl many (many + 1) [] u = .error 23))
  case atStart => exact ⟨0, g0, 0, [], u, rfl, by omega, (by unfold Hid; omega), HR0, .inl ⟨by omega, rfl⟩⟩
  case round =>
   obtain ⟨t, g, cbb, row, ⟨a1, o1⟩, rfl, ht2, hgk, hR, hF⟩ := hrel
   dsimp only at hR
   have hrl : Hid (row.length = t) := by have := hR.out.own.1; unfold Hid; rw [iC_length] at this; omega
   by_cases hlt : t < many
   ·have hlt2 : (t : Int) < (many : Int) := by omega
    obtain ⟨f, hf⟩ : ∃ f, gk = f + 1 := ⟨gk - 1, by have := hgk.out; omega⟩
    have hFt : Hid (lensF l cl many gk row ⟨a1, o1⟩ = lensF l cl many (many + 1) [] u) := by
     rcases hF.out with h1 | h1
     ·exact h1.2
     ·omega
    have hst : Hid (lensF l cl many (many + 1) [] u = bnd (runF l cl row ⟨a1, o1⟩) fun r => if many < t + r.1.2 then .error 23 else lensF l cl many f (row ++ List.replicate r.1.2 r.1.1) r.2) := by
     unfold Hid
     rw [← hFt.out, hf, lensF, if_neg (by rw [hrl.out]; omega), hrl.out]
    have hgk2 : Hid (f < gk ∧ many ≤ f + t) := by unfold Hid; have := hgk.out; omega
    have hgl := hR.out.own.lt g rfl
    have hRD := rread_c (ck := ck) (cg := k) (most := most) hR.out.bx.st hR.out.tb.row hR.out.tb.codes hR.out.tb.ok
    unfold sV at hRD
    dsimp only at hRD
    have t2 := hR.out.bx.ld
    have HRD := Lib.hid hRD
    have HGL := Lib.hid hgl
    clear hRD hf hFt hF hgl
    go_wp2_with (first
     | (with_reducible refine wpList_ld t2 (by with_unfolding_all rfl) ?_))
    refine HRD.out.mono ?_
    rintro e w3 (⟨z, av3, v3, h1, rfl, hb3⟩ | ⟨v, ⟨a2, o2⟩, h1, ho1, hv1, hat1, rfl, hb3⟩)
    ·have hz : z ≠ 0 := NZ.sym l cl ⟨a1, o1⟩ z h1
     have hz1 : ((z : Int) != 0) = true := by rw [bne_iff_ne]; omega
     have HR : Hid (lensF l cl many (many + 1) [] u = .error z) := by unfold Hid; rw [hst.out]; unfold runF; rw [h1]; rfl
     clear t2
     have hk := hR.out.below (hb3.alloc hb3.size (.cells #[.slice B nb cb, .slice X nx cx, .int .i64 av3, .slice A n c, .int .i64 most, .int .i64 z] 80))
     have hE := hk.get rfl hk.bx.st.at_le av3 (z : Int)
     have t1 := hk.bx.stp av3 A n c z
     have t2 := hE.bx.ld
     have t3 := hE.bx.stq
     obtain ⟨⟨c0, c1, c2, c3, c4, c5⟩, f0, f1, f2, f3, f4, f5⟩ := hE.bx.k1.six
     have HE := Lib.hid hE
     clear h1 hz hb3 hk hE
     go_wp2_with (first
      | (with_reducible refine wpList_ld t2 (by with_unfolding_all rfl) ?_)
      | (with_reducible refine wpList_st t1 (by with_unfolding_all rfl) (by with_unfolding_all rfl) ?_)
      | (with_reducible refine wpList_st t3 (by with_unfolding_all rfl) (by with_unfolding_all rfl) ?_))
     obtain ⟨z0, z1, z2, z3, z4, z5⟩ := HE.out.bx.q6 (.slice B nb cb) (.slice X nx cx) (.int .i64 av3) (.slice A n c) (.int .i64 most) (.int .i64 z)
     refine bodyPost_ret (v := .tuple #[.agg #[.slice B nb cb, .slice X nx cx, .int .i64 av3, .slice A n c, .int .i64 most, .int .i64 z], .slice none 0 0]) (by simp [results, Tryz.results95, go_sem, z0, z1, z2, z3, z4, z5]) rfl ?_
     exact .inl ⟨z, _, _, .inr ⟨HE0.out, HR.out⟩, rfl, below_setRow HE.out.bel (by omega) _⟩
    ·dsimp only at ho1 hat1 ⊢
     have hv19 : v < 19 := by omega
     have H1 := Lib.hid h1
     clear t2 HRD
     have hk := hR.out.below (hb3.alloc hb3.size (.cells #[.slice B nb cb, .slice X nx cx, .int .i64 a2, .slice A n c, .int .i64 most, .int .i64 0] 80))
     have hR3 := hk.get (uu' := ⟨a2, o2⟩) ho1 hat1 (a2 : Int) 0
     have hsz3 := hb3.size
     have hk11 : Blk ((w3.alloc (.cells #[.slice B nb cb, .slice X nx cx, .int .i64 a2, .slice A n c, .int .i64 most, .int .i64 0] 80)).setRow w.heap.size #[.slice B nb cb, .slice X nx cx, .int .i64 a2, .slice A n c, .int .i64 most, .int .i64 0]) w3.heap.size 80 #[.slice B nb cb, .slice X nx cx, .int .i64 a2, .slice A n c, .int .i64 most, .int .i64 0] := (blk_setRow_other (by have := HGL.out; omega) _).trans (Blk.new w3 _ _)
     have HP : Hid (w.heap.size + 2 ≤ w3.heap.size ∧ (Value.slice A n c).ownBlock ≠ some w3.heap.size ∧ w3.heap.size ≠ g ∧ w3.heap.size ≠ gc) := by
      have h1 := HGL.out
      have h2 := hR.out.tb.apg.1
      refine ⟨by omega, fun e => ?_, by omega, by omega⟩
      have := hR.out.loA _ e
      omega
     have t1 := hk.bx.stp a2 A n c 0
     have t2 := hR3.bx.ld
     obtain ⟨⟨c0, c1, c2, c3, c4, c5⟩, f0, f1, f2, f3, f4, f5⟩ := hR3.bx.k1.six
     have HR3 := Lib.hid hR3
     have HK11 := Lib.hid hk11
     have HO1 := Lib.hid ho1
     generalize hp11 : w3.heap.size = p11 at *
     generalize hW3 : (w3.alloc (.cells #[.slice B nb cb, .slice X nx cx, .int .i64 a2, .slice A n c, .int .i64 most, .int .i64 0] 80)).setRow w.heap.size #[.slice B nb cb, .slice X nx cx, .int .i64 a2, .slice A n c, .int .i64 most, .int .i64 0] = W3 at *
     clear hW3 hk hR3 hk11 hb3 ho1 hat1 h1 hsz3 hR
     by_cases e1 : v < 16
     ·have hi1 : (v : Int) < 16 := by omega
      have hrun : runF l cl row ⟨a1, o1⟩ = .ok (((v : Nat), 1), ⟨a2, o2⟩) := by unfold runF; rw [H1.out, bnd_ok, if_neg (by show ¬ v = 16; omega), if_neg (by show ¬ v = 17; omega), if_neg (by show ¬ v = 18; omega)]
      have HF1 : Hid (lensF l cl many f (row ++ List.replicate 1 ((v : Nat) : Int)) ⟨a2, o2⟩ = lensF l cl many (many + 1) [] u) := by
       unfold Hid
       rw [hst.out, hrun, bnd_ok, if_neg (by show ¬ many < t + 1; omega)]
      have hsm := HR3.out.small.append_rep (y := ((v : Nat) : Int)) (by omega) 1
      have HSM := Lib.hid hsm
      clear hrun hsm e1
      go_wp2_with (first
       | (with_reducible refine wpList_st t1 (by with_unfolding_all rfl) (by with_unfolding_all rfl) ?_)
       | (at_builtin; refine wpList_append_lies _ rfl (.tmp 47) (.tmp 49) 49 rfl (w.heap.size + 2) 3 i0 (.int .i64 0) 1 8 Tryz.underlying49 hi hz0 hz1 hz2 rfl (by decide) (.slice (some ⟨g, 0, none⟩) t cbb) t (iC row) rfl (HR3.out.own.alloc _) ⟨W3.heap.size, 0, none⟩ 1 1 [_] rfl rfl (one_cell W3 _ _) (by intro u hu; simp at hu; subst hu; rfl) (by omega) (by unfold maxLen; omega) (by omega) (by have := HR3.out.own.lt g rfl; simp; omega) _ rfl ?_; intro g' c' w' hown' hg' hat' _))
      have HN : Hid (LnR w H B nb cb X nx cx l A n c u M most LA k gc cl w' g' (t + 1) c' (row ++ List.replicate 1 ((v : Nat) : Int)) ⟨a2, o2⟩ a2 0) := HR3.out.grow HSM.out (by rw [iC_append]; exact hown') hg' hat'
      have hms : Hid (many + 1 ≤ f + (t + 1)) := by unfold Hid; have := hgk2.out.2; omega
      have ht3 : t + 1 ≤ many + 200 := by omega
      have htm : Hid (t + 1 ≤ many) := by unfold Hid; omega
      clear hown' hg' hat' t1 t2 c0 c1 c2 c3 c4 c5 f0 f1 f2 f3 f4 f5
      go_wp2
      go_roundg f
      case measure => exact hgk2.out.1
      case rel => exact ⟨t + 1, g', c', _, ⟨a2, o2⟩, rfl, ht3, hms, HN, .inl ⟨htm.out, HF1.out⟩⟩
     ·by_cases e2 : v = 16 ∧ t = 0
      ·obtain ⟨rfl, ht0⟩ := e2
       have HR : Hid (lensF l cl many (many + 1) [] u = .error 34) := by
        unfold Hid
        rw [hst.out]
        unfold runF
        rw [H1.out, bnd_ok, if_pos rfl, if_pos (by rw [hrl.out]; exact ht0)]; rfl
       have htb : ((t : Int) == 0) = true := by rw [beq_iff_eq]; omega
       have hB := HR3.out.bx.err 34
       have hBB : Below w.heap.size w (W3.setCell ⟨w.heap.size, 5, none⟩ (.int .i64 34)) := HR3.out.bel.setCell (Nat.le_refl _) _
       clear t2
       have t2 := hB.ld
       have t3 := hB.stq
       have HB := Lib.hid hB
       have HBB := Lib.hid hBB
       clear hB hBB ht0 e1
       go_wp2_with (first
        | (with_reducible refine wpList_ld t2 (by with_unfolding_all rfl) ?_)
        | (with_reducible refine wpList_st t1 (by with_unfolding_all rfl) (by with_unfolding_all rfl) ?_)
        | (with_reducible refine wpList_st t3 (by with_unfolding_all rfl) (by with_unfolding_all rfl) ?_))
       obtain ⟨z0, z1, z2, z3, z4, z5⟩ := HB.out.q6 (.slice B nb cb) (.slice X nx cx) (.int .i64 a2) (.slice A n c) (.int .i64 most) (.int .i64 34)
       refine bodyPost_ret (v := .tuple #[.agg #[.slice B nb cb, .slice X nx cx, .int .i64 a2, .slice A n c, .int .i64 most, .int .i64 34], .slice none 0 0]) (by simp [results, Tryz.results95, go_sem, z0, z1, z2, z3, z4, z5]) rfl ?_
       exact .inl ⟨34, _, _, .inr ⟨HE0.out, HR.out⟩, rfl, below_setRow HBB.out (by omega) _⟩
      ·have hi1 : ¬ (v : Int) < 16 := by omega
       go_upto_region 13 with (first
        | (with_reducible refine wpList_st t1 (by with_unfolding_all rfl) (by with_unfolding_all rfl) ?_))
       go_cut [12, 57] (fun s12 s57 wx => s12 = .int .i64 v ∧ s57 = .bool false ∧ W3 = wx)
       case first =>
        by_cases e3 : v = 16
        ·have htb : ((t : Int) == 0) = false := by rw [beq_eq_false_iff_ne]; omega
         have hvb : ((v : Int) == 16) = true := by rw [beq_iff_eq]; omega
         go_wp2_with fail
         go_meet
         case rel => exact ⟨by rw [e3]; rfl, rfl, rfl⟩
        ·have hvb : ((v : Int) == 16) = false := by rw [beq_eq_false_iff_ne]; omega
         go_wp2_with fail
         go_meet
         case rel => exact ⟨rfl, rfl, rfl⟩
       case rest =>
        obtain ⟨rfl, rfl, rfl⟩ := hcut
        go_upto_if 61 with fail
        go_cut [12, 13, 14, 15] (fun s12 s13 s14 s15 wx => ∃ (bb ls : Nat) (y : Int) (q : Nat), s12 = .int .i64 v ∧ s13 = .int .i64 bb ∧ s14 = .int .i64 ls ∧ s15 = .int .i64 y ∧ bb ≤ 7 ∧ 1 ≤ ls ∧ ls ≤ 11 ∧ Hid (0 ≤ y ∧ y ≤ 300) ∧ W3.drewN q = wx ∧ Hid (runF l cl row ⟨a1, o1⟩ = bnd (numF l bb ⟨a2, o2⟩) fun q => .ok ((y, ls + q.1), q.2)))
        case first =>
         by_cases e3 : v = 16
         ·have hvb : ((v : Int) == 16) = true := by rw [beq_iff_eq]; omega
          obtain ⟨t1', ht1'⟩ : ∃ t1', t1' = t - 1 := ⟨_, rfl⟩
          have hsub : IntKind.i64.wrap ((t : Int) - 1) = (t1' : Int) := (IntWalk.i64_in _ (by omega)).trans (by omega)
          have hc := HR3.out.own.cellAt t1' (by omega)
          rw [iC_at (by rw [hrl.out]; omega)] at hc
          have hy := HR3.out.small t1' (by rw [hrl.out]; omega)
          have hRUN : Hid (runF l cl row ⟨a1, o1⟩ = bnd (numF l 2 ⟨a2, o2⟩) fun q => .ok ((gi row t1', 3 + q.1), q.2)) := by
           unfold Hid runF
           rw [H1.out, bnd_ok, if_pos e3, if_neg (by rw [hrl.out]; omega), hrl.out, ht1']
          have HY := Lib.hid hy
          have hlt9 : (t1' : Int) < (t : Int) := by omega
          have HT1 := Lib.hid ht1'
          generalize gi row t1' = y at *
          clear hy ht1'
          go_wp2_with fail
          go_quiet (fail)
          go_wp2_with fail
          go_meet
          case rel => exact ⟨2, 3, y, _, by rw [e3]; rfl, rfl, rfl, rfl, by omega, by omega, by omega, HY, rfl, hRUN⟩
         ·have hvb : ((v : Int) == 16) = false := by rw [beq_eq_false_iff_ne]; omega
          by_cases e4 : v = 17
          ·have hvc : ((v : Int) == 17) = true := by rw [beq_iff_eq]; omega
           have hRUN : Hid (runF l cl row ⟨a1, o1⟩ = bnd (numF l 3 ⟨a2, o2⟩) fun q => .ok ((0, 3 + q.1), q.2)) := by
            unfold Hid runF
            rw [H1.out, bnd_ok, if_neg e3, if_pos e4]
           go_wp2_with fail
           go_meet
           case rel => exact ⟨3, 3, 0, 0, by rw [e4]; rfl, rfl, rfl, rfl, by omega, by omega, by omega, (by unfold Hid; omega), rfl, hRUN⟩
          ·have hvc : ((v : Int) == 17) = false := by rw [beq_eq_false_iff_ne]; omega
           have hRUN : Hid (runF l cl row ⟨a1, o1⟩ = bnd (numF l 7 ⟨a2, o2⟩) fun q => .ok ((0, 11 + q.1), q.2)) := by
            unfold Hid runF
            rw [H1.out, bnd_ok, if_neg e3, if_neg e4, if_pos (by show v = 18; omega)]
           go_wp2_with fail
           go_meet
           case rel => exact ⟨7, 11, 0, 0, rfl, rfl, rfl, rfl, by omega, by omega, by omega, (by unfold Hid; omega), rfl, hRUN⟩
        case rest =>
         obtain ⟨bb, ls, y, q, rfl, rfl, rfl, rfl, hbb, hls1, hls2, hy, rfl, hRUN⟩ := hcut
         have hR4 := HR3.out.drewN q
         have hg4 := rget_c (most := most) hR4.bx.st bb (by omega)
         unfold sV at hg4
         dsimp only at hg4
         have HG := Lib.hid hg4
         clear t1 t2
         have t2 := hR4.bx.ld
         have HR4 := Lib.hid hR4
         have HK4 : Hid (Blk (W3.drewN q) p11 80 #[.slice B nb cb, .slice X nx cx, .int .i64 a2, .slice A n c, .int .i64 most, .int .i64 0]) := HK11.out
         clear hR4 hg4 e2 hi1 e1
         clear c0 c1 c2 c3 c4 c5 f0 f1 f2 f3 f4 f5
         generalize W3.drewN q = W4 at *
         go_wp2_with (first
          | (with_reducible refine wpList_ld t2 (by with_unfolding_all rfl) ?_))
         refine HG.out.mono ?_
         rintro e w4 (⟨z, av4, g4, rfl, hb4⟩ | ⟨r, ⟨a3, o3⟩, g4, ho4, hr4, ha4, rfl, hb4⟩)
         ·have hz : z ≠ 0 := NZ.num l bb ⟨a2, o2⟩ z g4
          have hz1 : ((z : Int) != 0) = true := by rw [bne_iff_ne]; omega
          have HR : Hid (lensF l cl many (many + 1) [] u = .error z) := by unfold Hid; rw [hst.out, hRUN.out, g4]; rfl
          clear t2
          have k11 := HK4.out.below HK4.out.lt hb4
          have hk := (HR4.out.below hb4).setFar HP.out.1 HP.out.2.1 HP.out.2.2.1 HP.out.2.2.2 #[.slice B nb cb, .slice X nx cx, .int .i64 av4, .slice A n c, .int .i64 most, .int .i64 z]
          have hE := hk.get rfl hk.bx.st.at_le av4 (z : Int)
          have t0 := store_sV k11 rfl B nb cb X nx cx av4 A n c most z
          have t4 := load_st (k11.setRow #[.slice B nb cb, .slice X nx cx, .int .i64 av4, .slice A n c, .int .i64 most, .int .i64 z]) rfl
          have t1 := hk.bx.stp av4 A n c z
          have t2 := hE.bx.ld
          have t3 := hE.bx.stq
          obtain ⟨⟨c0, c1, c2, c3, c4, c5⟩, f0, f1, f2, f3, f4, f5⟩ := hE.bx.k1.six
          have HE := Lib.hid hE
          clear g4 hz hb4 hk hE k11
          go_wp2_with (first
           | (with_reducible refine wpList_st t0 (by with_unfolding_all rfl) (by with_unfolding_all rfl) ?_)
           | (with_reducible refine wpList_ld t4 (by with_unfolding_all rfl) ?_)
           | (with_reducible refine wpList_ld t2 (by with_unfolding_all rfl) ?_)
           | (with_reducible refine wpList_st t1 (by with_unfolding_all rfl) (by with_unfolding_all rfl) ?_)
           | (with_reducible refine wpList_st t3 (by with_unfolding_all rfl) (by with_unfolding_all rfl) ?_))
          obtain ⟨z0, z1, z2, z3, z4, z5⟩ := HE.out.bx.q6 (.slice B nb cb) (.slice X nx cx) (.int .i64 av4) (.slice A n c) (.int .i64 most) (.int .i64 z)
          refine bodyPost_ret (v := .tuple #[.agg #[.slice B nb cb, .slice X nx cx, .int .i64 av4, .slice A n c, .int .i64 most, .int .i64 z], .slice none 0 0]) (by simp [results, Tryz.results95, go_sem, z0, z1, z2, z3, z4, z5]) rfl ?_
          exact .inl ⟨z, _, _, .inr ⟨HE0.out, HR.out⟩, rfl, below_setRow HE.out.bel (by omega) _⟩
         ·dsimp only at ho4 ha4 ⊢
          have hr128 : r < 128 := Nat.lt_of_lt_of_le hr4 (show 2 ^ bb ≤ 2 ^ 7 from Nat.pow_le_pow_right (by decide) hbb)
          obtain ⟨T, hT⟩ : ∃ T, T = ls + r := ⟨_, rfl⟩
          have hT0 : (ls : Int) + (r : Int) = (T : Int) := by omega
          have hT139 : T ≤ 139 := by omega
          have hT1 : 1 ≤ T := by omega
          have HSS : Hid (lensF l cl many (many + 1) [] u = if many < t + T then .error 23 else lensF l cl many f (row ++ List.replicate T y) ⟨a3, o3⟩) := by unfold Hid; rw [hst.out, hRUN.out, g4, bnd_ok, bnd_ok, ← hT]
          clear t2
          have k11 := HK4.out.below HK4.out.lt hb4
          have hk := (HR4.out.below hb4).setFar HP.out.1 HP.out.2.1 HP.out.2.2.1 HP.out.2.2.2 #[.slice B nb cb, .slice X nx cx, .int .i64 a3, .slice A n c, .int .i64 most, .int .i64 0]
          have hR5 := hk.get (uu' := ⟨a3, o3⟩) ho4 ha4 (a3 : Int) 0
          have t0 := store_sV k11 rfl B nb cb X nx cx a3 A n c most 0
          have t4 := load_st (k11.setRow #[.slice B nb cb, .slice X nx cx, .int .i64 a3, .slice A n c, .int .i64 most, .int .i64 0]) rfl
          have t1 := hk.bx.stp a3 A n c 0
          obtain ⟨⟨c0, c1, c2, c3, c4, c5⟩, f0, f1, f2, f3, f4, f5⟩ := hR5.bx.k1.six
          have HR5 := Lib.hid hR5
          have HTT := Lib.hid hT
          clear hT hb4 hk hR5 k11 g4 ho4 ha4 hr4
          go_wp2_with (first
           | (with_reducible refine wpList_st t0 (by with_unfolding_all rfl) (by with_unfolding_all rfl) ?_)
           | (with_reducible refine wpList_ld t4 (by with_unfolding_all rfl) ?_)
           | (with_reducible refine wpList_st t1 (by with_unfolding_all rfl) (by with_unfolding_all rfl) ?_))
          clear t0 t4 t1 c0 c1 c2 c3 c4 c5 f0 f1 f2 f3 f4 f5
          generalize (w4.setRow p11 #[.slice B nb cb, .slice X nx cx, .int .i64 a3, .slice A n c, .int .i64 most, .int .i64 0]).setRow w.heap.size #[.slice B nb cb, .slice X nx cx, .int .i64 a3, .slice A n c, .int .i64 most, .int .i64 0] = W5 at *
          go_loopg [10, 17] T (fun gj v iv wr2 => ∃ (j N g' c' : Nat), v = .slice (some ⟨g', 0, none⟩) N c' ∧ iv = .int .i64 j ∧ j ≤ T ∧ Hid (N = t + j) ∧ Hid (gj + j = T) ∧ Hid (LnR w H B nb cb X nx cx l A n c u M most LA k gc cl wr2 g' N c' (row ++ List.replicate j y) ⟨a3, o3⟩ a3 0))
          case atStart => exact ⟨0, t, g, cbb, rfl, rfl, by omega, rfl, rfl, by rw [show row ++ List.replicate 0 y = row by simp]; exact HR5⟩
          case round =>
           obtain ⟨j, N, g', c', rfl, rfl, hj, hN, hgj, hR6⟩ := hrel
           by_cases hjT : j < T
           ·have hjT2 : (j : Int) < (T : Int) := by omega
            have hN2 : N ≤ 2000 := by have := hN.out; omega
            have HSM := Lib.hid (hR6.out.small)
            go_wp2_with (first
             | (at_builtin; refine wpList_append_lies _ rfl (.tmp 88) (.tmp 90) 49 rfl (w.heap.size + 2) 3 i0 (.int .i64 0) 1 8 Tryz.underlying49 hi hz0 hz1 hz2 rfl (by decide) (.slice (some ⟨g', 0, none⟩) N c') N (iC (row ++ List.replicate j y)) rfl (hR6.out.own.alloc _) ⟨wr.heap.size, 0, none⟩ 1 1 [_] rfl rfl (one_cell wr _ _) (by intro u hu; simp at hu; subst hu; rfl) (by omega) (by unfold maxLen; omega) (by omega) (by have := hR6.out.own.lt g' rfl; simp; omega) _ rfl ?_; intro g2 c2 w2 hown' hg' hat' _))
            have hsm2 : Small (row ++ List.replicate (j + 1) y) := by
             have h0 := HR5.out.small
             exact h0.append_rep hy.out (j + 1)
            have HN : Hid (LnR w H B nb cb X nx cx l A n c u M most LA k gc cl w2 g2 (N + 1) c2 (row ++ List.replicate (j + 1) y) ⟨a3, o3⟩ a3 0) := hR6.out.grow hsm2 (by rw [← iC_snoc]; exact hown') hg' hat'
            have hN3 : Hid (N + 1 = t + (j + 1)) := by unfold Hid; have := hN.out; omega
            have hgj2 : Hid (gk - 1 + (j + 1) = T) := by unfold Hid; have := hgj.out; omega
            have hms : Hid (gk - 1 < gk) := by unfold Hid; have := hgj.out; omega
            clear hown' hg' hat' hsm2
            go_wp2
            go_roundg (gk - 1)
            case measure => exact hms.out
            case rel => exact ⟨j + 1, N + 1, g2, c2, rfl, by go_num, by omega, hN3, hgj2, HN⟩
           ·have hjT2 : ¬ (j : Int) < (T : Int) := by omega
            have hjT3 : j = T := by omega
            have hR7 : Hid (LnR w H B nb cb X nx cx l A n c u M most LA k gc cl wr g' N c' (row ++ List.replicate T y) ⟨a3, o3⟩ a3 0) := by have := hR6.out; rw [hjT3] at this; exact this
            have hNT : Hid (N = t + T) := by have := hN.out; rw [hjT3] at this; exact this
            have hN2 : N ≤ many + 200 := by have := hNT.out; omega
            have hms : Hid (many + 1 ≤ f + N) := by unfold Hid; have := hgk2.out.2; have := hNT.out; omega
            have hFN : Hid (N ≤ many ∧ lensF l cl many f (row ++ List.replicate T y) ⟨a3, o3⟩ = lensF l cl many (many + 1) [] u ∨ many < N ∧ lensF l cl many (many + 1) [] u = .error 23) := by
             unfold Hid
             rw [HSS.out, hNT.out]
             by_cases h9 : many < t + T
             ·right; exact ⟨h9, if_pos h9⟩
             ·left; exact ⟨by omega, (if_neg h9).symm⟩
            clear hjT hjT3
            go_wp2
            go_roundg f
            case measure => exact hgk2.out.1
            case rel => exact ⟨N, g', c', _, ⟨a3, o3⟩, rfl, hN2, hms, hR7, hFN.out⟩
   ·by_cases hbig : many < t
    ·have hlt2 : ¬ (t : Int) < (many : Int) := by omega
     have hbig2 : (many : Int) < (t : Int) := by omega
     have HE : Hid (lensF l cl many (many + 1) [] u = .error 23) := by
      rcases hF.out with h1 | h1
      ·omega
      ·exact h1.2
     have hB := hR.out.bx.err 23
     have hBB : Below w.heap.size w (wr.setCell ⟨w.heap.size, 5, none⟩ (.int .i64 23)) := hR.out.bel.setCell (Nat.le_refl _) _
     have t2 := hB.ld
     have t3 := hB.stq
     obtain ⟨⟨c0, c1, c2, c3, c4, c5⟩, f0, f1, f2, f3, f4, f5⟩ := hR.out.bx.k1.six
     have HB := Lib.hid hB
     have HBB := Lib.hid hBB
     clear hB hBB hlt hbig
     go_wp2_with (first
      | (with_reducible refine wpList_ld t2 (by with_unfolding_all rfl) ?_)
      | (with_reducible refine wpList_st t3 (by with_unfolding_all rfl) (by with_unfolding_all rfl) ?_))
     obtain ⟨z0, z1, z2, z3, z4, z5⟩ := HB.out.q6 (.slice B nb cb) (.slice X nx cx) (.int .i64 a1) (.slice A n c) (.int .i64 most) (.int .i64 23)
     refine bodyPost_ret (v := .tuple #[.agg #[.slice B nb cb, .slice X nx cx, .int .i64 a1, .slice A n c, .int .i64 most, .int .i64 23], .slice (some ⟨g, 0, none⟩) t cbb]) (by simp [results, Tryz.results95, go_sem, z0, z1, z2, z3, z4, z5]) rfl ?_
     exact .inl ⟨23, _, _, .inr ⟨HE0.out, HE.out⟩, rfl, below_setRow HBB.out (by omega) _⟩
    ·have hlt2 : ¬ (t : Int) < (many : Int) := by omega
     have hbig2 : ¬ (many : Int) < (t : Int) := by omega
     have HTM : Hid (t = many) := by unfold Hid; omega
     have HE : Hid (lensF l cl many (many + 1) [] u = .ok (row, ⟨a1, o1⟩)) := by
      rcases hF.out with h1 | h1
      ·obtain ⟨f, hf⟩ : ∃ f, gk = f + 1 := ⟨gk - 1, by have := hgk.out; omega⟩
       unfold Hid
       rw [← h1.2, hf, lensF, if_pos (by rw [hrl.out]; omega)]
      ·omega
     have t2 := hR.out.bx.ld
     have t3 := hR.out.bx.stq
     obtain ⟨⟨c0, c1, c2, c3, c4, c5⟩, f0, f1, f2, f3, f4, f5⟩ := hR.out.bx.k1.six
     clear hlt hbig
     go_wp2_with (first
      | (with_reducible refine wpList_ld t2 (by with_unfolding_all rfl) ?_)
      | (with_reducible refine wpList_st t3 (by with_unfolding_all rfl) (by with_unfolding_all rfl) ?_))
     obtain ⟨z0, z1, z2, z3, z4, z5⟩ := hR.out.bx.q6 (.slice B nb cb) (.slice X nx cx) (.int .i64 a1) (.slice A n c) (.int .i64 most) (.int .i64 0)
     refine bodyPost_ret (v := .tuple #[.agg #[.slice B nb cb, .slice X nx cx, .int .i64 a1, .slice A n c, .int .i64 most, .int .i64 0], .slice (some ⟨g, 0, none⟩) t cbb]) (by simp [results, Tryz.results95, go_sem, z0, z1, z2, z3, z4, z5]) rfl ?_
     have hgl := hR.out.own.lt g rfl
     have hw := own_base (base' := w.heap.size) (own_blk (w' := wr.setRow (w.heap.size + 1) #[.slice B nb cb, .slice X nx cx, .int .i64 a1, .slice A n c, .int .i64 most, .int .i64 0]) hR.out.own (fun x hx => blk_setRow_other (by have := ob hx; omega) _)) (by omega)
     have hrlo := hrl.out
     rw [HTM.out] at hw hrlo ⊢
     exact .inr ⟨row, ⟨a1, o1⟩, _, cbb, HE0.out, HE.out, hrlo, hR.out.small, hR.out.out, hR.out.bx.st.at_le, rfl, hw, below_setRow hR.out.bel (by omega) _⟩
end
end Go.Proofs.YtldgdofefcehnaaGreatDoor
