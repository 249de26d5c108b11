/-
  THE CONTRACTS OF THE DOCUMENT's OWN ANSWERS FOR LAYER 12: block. No conditions.
-/
import Derived.Test.YtldgdofefcehnaaGreatDoorInfQ
import Derived.Test.YtldgdofefcehnaaGreatDoorCanD
namespace Go.Proofs.YtldgdofefcehnaaGreatDoor
open Go.RowKit
set_option maxRecDepth 100000
set_option linter.unusedVariables false
theorem tab_of {l : List Int} {n : Nat} (hl : l.length = n) (h : errC l n = 0) : TabOk l n := by
 unfold errC at h
 by_cases h1 : 288 < n ∨ RightB l n = false
 ·rw [if_pos h1] at h; omega
 ·rw [if_neg h1] at h
  by_cases h2 : 32768 < kr l n
  ·rw [if_pos h2] at h; omega
  ·rw [if_neg h2] at h
   by_cases h3 : kr l n < 32768 ∧ 2 ≤ totL l n
   ·rw [if_pos h3] at h; omega
   ·have hrb : RightB l n = true := by
     cases hr : RightB l n with
     | true => rfl
     | false => exact absurd (.inr hr) h1
    refine ⟨hl, by omega, ?_, by omega, ?_⟩
    ·have := RightB_all hrb
     intro i hi
     exact this i (by omega)
    ·omega
theorem RTb.setRow {w : World} {a : Option Nat} {L : Option Addr} {k g : Nat} {cl : List Int} (h : RTb w a L k g cl) {p : Nat} (hg : g ≠ p) (hL : ∀ b o, L = some ⟨b, o, none⟩ → b ≠ p) (D : Array Value) : RTb (w.setRow p D) a L k g cl := by
 have hs : (w.setRow p D).heap.size = w.heap.size := by simp [World.setRow]
 refine ⟨⟨h.row.len, h.row.max, fun hn => ?_, h.row.wf⟩, fun i hi => ⟨by rw [hs]; exact h.apg.1, ?_⟩, h.ok, fun b o e => ⟨by rw [hs]; exact (h.apr b o e).1, (h.apr b o e).2⟩, by rw [hs]; exact h.apg.1, h.apg.2⟩
 ·obtain ⟨b', o, e, hl, hc⟩ := h.row.cells hn
  refine ⟨b', o, e, by rw [hs]; exact hl, fun i hi => ?_⟩
  rw [World.cell?_of_block (a := ⟨b', o + i, none⟩) (blk_setRow_other (hL b' o e) D)]
  exact hc i hi
 ·rw [World.cell?_of_block (a := ⟨g, i, none⟩) (blk_setRow_other hg D)]
  exact (h.codes i hi).2
structure RLn (w : World) (a : Option Nat) (L : Option Addr) (k : Nat) (cl : List Int) : Prop where
 row : IRow w L k .i64 cl
 apr : ∀ b o, L = some ⟨b, o, none⟩ → b < w.heap.size ∧ a ≠ some b
theorem RLn.below {w w' : World} {a : Option Nat} {L : Option Addr} {k : Nat} {cl : List Int} (h : RLn w a L k cl) (hb : Below w.heap.size w w') : RLn w' a L k cl :=
 ⟨h.row.below hb, fun b o e => ⟨Nat.lt_of_lt_of_le (h.apr b o e).1 hb.size, (h.apr b o e).2⟩⟩
theorem RLn.tab {w w' : World} {a : Option Nat} {L : Option Addr} {k g : Nat} {cl : List Int} (h : RLn w a L k cl) (hb : Below w.heap.size w w') (ha : ∀ g, a = some g → g < w.heap.size) (hown : w'.ownsRow w.heap.size 60 1 (.slice (some ⟨g, 0, none⟩) k k) k (us (codeN cl) k)) (he : errC cl k = 0) : RTb w' a L k g cl ∧ w.heap.size ≤ g := by
 have hg := hown.lt g rfl
 have h2 := h.below hb
 refine ⟨⟨h2.row, fun i hi => ⟨hg.2, ?_⟩, tab_of h.row.len he, h2.apr, hg.2, fun e => by have := ha g e; omega⟩, hg.1⟩
 have := hown.cellAt i (by omega)
 rw [us_at _ hi] at this
 exact this
section
variable {w : World} {H : Nat} {B : Option Addr} {nb cb : Nat} {X : Option Addr} {nx cx : Nat} {l : List F} {A : Option Addr} {n c : Nat} {u : Un} {M : Nat} {most : Int}
set_option maxHeartbeats 4000000 in
theorem rblock_c (h : RSt w H B nb cb X nx cx l A n c u M) (hm : max most 0 = (M : Int)) {LA DA : Option Addr} {k ck kd cd : Nat} {ls ds : List Int} (hL : RLn w (Value.slice A n c).ownBlock LA k ls) (hD : RLn w (Value.slice A n c).ownBlock DA kd ds) :
  Calls Tryz.prog 45 #[sV B nb cb X nx cx u.at_ A n c most 0, .slice LA k ck, .slice DA kd cd] w fun e w' => RWent w H B nb cb X nx cx l A n c M most (blockF l M ls ds u) e w' := by
 have HB0 := Lib.hid (Bx.start (most := most) h u.at_ 0)
 have hlk := hL.row.len
 have hld := hD.row.len
 have hown := fun g hg => (h.own.lt g hg).2
 have HAP : Hid ((∀ b o, LA = some ⟨b, o, none⟩ → b ≠ w.heap.size) ∧ (∀ b o, DA = some ⟨b, o, none⟩ → b ≠ w.heap.size)) := ⟨fun b o e => by have := (hL.apr b o e).1; omega, fun b o e => by have := (hD.apr b o e).1; omega⟩
 unfold sV
 obtain ⟨av, hav⟩ : ∃ av, av = u.at_ := ⟨_, rfl⟩
 rw [← hav] at HB0 ⊢
 have HAV := Lib.hid hav
 obtain ⟨T0, hT0⟩ : ∃ T0, T0 = ((w.alloc (.cells #[.slice B nb cb, .slice X nx cx, .int .i64 av, .slice A n c, .int .i64 most, .int .i64 0] 80)).alloc (.cells #[.slice none 0 0, .slice none 0 0, .int .i64 0, .slice none 0 0, .int .i64 0, .int .i64 0] 80)) := ⟨_, rfl⟩
 have hb0 : Below w.heap.size w T0 := by rw [hT0]; exact ((Below.refl _ _).alloc (Nat.le_refl _) _).alloc (by simp) _
 have hs0 : T0.heap.size = w.heap.size + 2 := by rw [hT0]; simp
 have hL0 := hL.below hb0
 have hD0 := hD.below hb0
 have HC1 := Lib.hid (RefCodes_c LA k ck ls T0 hL0.row)
 rw [← hT0] at HB0
 go_enter Tryz.func45, Tryz.ntmps45
 have HM := Lib.hid hm
 have HL0 := Lib.hid hL0
 have HD0 := Lib.hid hD0
 have HLK := Lib.hid hlk
 have HLD := Lib.hid hld
 have HOWN := Lib.hid hown
 have HS0 := Lib.hid hs0
 have HBL0 := Lib.hid hb0
 clear h hm hL hD hL0 hD0 hav hlk hld hown hs0 hb0
 go_wp2_with fail
 rw [← hT0]
 clear hT0
 refine HC1.out.mono ?_
 rintro e w1 (⟨he, rfl, rfl⟩ | ⟨he, g1, rfl, hown1, hb1⟩)
 ·obtain ⟨z, hz⟩ : ∃ z, z = errC ls k := ⟨_, rfl⟩
  rw [← hz] at he ⊢
  have hz1 : ((z : Int) != 0) = true := by rw [bne_iff_ne]; omega
  have HR : Hid (blockF l M ls ds u = .error z) := by unfold Hid blockF; rw [HLK.out, ← hz, if_pos he]
  have hB := HB0.out.err z
  have t2 := hB.ld
  have t3 := hB.stq
  obtain ⟨⟨c0, c1, c2, c3, c4, c5⟩, f0, f1, f2, f3, f4, f5⟩ := HB0.out.k1.six
  have HB := Lib.hid hB
  clear he hz hB HC1
  go_wp2_with (first
   | (with_reducible refine wpList_ld t2 (by with_unfolding_all rfl) ?_)
   | (with_reducible refine wpList_st t3 (by with_unfolding_all rfl) (by with_unfolding_all rfl) ?_))
  obtain ⟨z0, z1, z2, z3, z4, z5⟩ := HB.out.q6 (.slice B nb cb) (.slice X nx cx) (.int .i64 av) (.slice A n c) (.int .i64 most) (.int .i64 z)
  refine bodyPost_ret (v := .agg #[.slice B nb cb, .slice X nx cx, .int .i64 av, .slice A n c, .int .i64 most, .int .i64 z]) (by simp [results, Tryz.results45, go_sem, z0, z1, z2, z3, z4, z5]) rfl ?_
  exact .inl ⟨z, _, _, _, _, _, HR.out, rfl, HB.out.ends _⟩
 ·have hB1 := HB0.out.below hb1
  have HC2 := Lib.hid (RefCodes_c DA kd cd ds w1 (HD0.out.below hb1).row)
  have htL := HL0.out.tab hb1 (fun g hg => by have := HOWN.out g hg; have := HS0.out; omega) hown1 he
  have HB1 := Lib.hid hB1
  have HE1 := Lib.hid he
  have HTL := Lib.hid htL
  have HBL1 := Lib.hid hb1
  clear hB1 he htL hown1 hb1 HC1
  go_wp2_with fail
  refine HC2.out.mono ?_
  rintro e w2 (⟨he, rfl, rfl⟩ | ⟨he, g2, rfl, hown2, hb2⟩)
  ·obtain ⟨z, hz⟩ : ∃ z, z = errC ds kd := ⟨_, rfl⟩
   rw [← hz] at he ⊢
   have hz1 : ((z : Int) != 0) = true := by rw [bne_iff_ne]; omega
   have HR : Hid (blockF l M ls ds u = .error z) := by unfold Hid blockF; rw [HLK.out, if_neg (by rw [HE1.out]; omega), HLD.out, ← hz, if_pos he]
   have hB := HB1.out.err z
   have t2 := hB.ld
   have t3 := hB.stq
   obtain ⟨⟨c0, c1, c2, c3, c4, c5⟩, f0, f1, f2, f3, f4, f5⟩ := HB1.out.k1.six
   have HB := Lib.hid hB
   clear he hz hB HC2
   go_wp2_with (first
    | (with_reducible refine wpList_ld t2 (by with_unfolding_all rfl) ?_)
    | (with_reducible refine wpList_st t3 (by with_unfolding_all rfl) (by with_unfolding_all rfl) ?_))
   obtain ⟨z0, z1, z2, z3, z4, z5⟩ := HB.out.q6 (.slice B nb cb) (.slice X nx cx) (.int .i64 av) (.slice A n c) (.int .i64 most) (.int .i64 z)
   refine bodyPost_ret (v := .agg #[.slice B nb cb, .slice X nx cx, .int .i64 av, .slice A n c, .int .i64 most, .int .i64 z]) (by simp [results, Tryz.results45, go_sem, z0, z1, z2, z3, z4, z5]) rfl ?_
   exact .inl ⟨z, _, _, _, _, _, HR.out, rfl, HB.out.ends _⟩
  ·have hB2 := HB1.out.below hb2
   have htD := (HD0.out.below HBL1.out).tab hb2 (fun g hg => by have := HOWN.out g hg; have := HS0.out; have := HBL1.out.size; omega) hown2 he
   have htL2 := HTL.out.1.rout (ROut.ofBelow hb2)
   have hg1 : w.heap.size + 1 < g1 := by have := HTL.out.2; have := HS0.out; omega
   have hg2 : w.heap.size + 1 < g2 := by have := htD.2; have := HS0.out; have := HBL1.out.size; omega
   have HR0 : Hid (blockF l M ls ds u = codedF l M ls ds u) := by unfold Hid blockF; rw [HLK.out, if_neg (by rw [HE1.out]; omega), HLD.out, if_neg (by rw [he]; omega)]
   have hk288 := htL2.ok.few
   have HB2 := Lib.hid hB2
   have HTD := Lib.hid htD.1
   have HTL2 := Lib.hid htL2
   have HGG := Lib.hid (And.intro hg1 hg2)
   rw [HAV.out] at HB2
   clear hB2 htD htL2 hown2 hb2 he HC2 hg1 hg2
   go_wp2
   go_loopg [11] (8 * l.length - u.at_) (fun gk i wr => ∃ (A' : Option Addr) (n' c' : Nat) (uu : Un), Hid (gk = 8 * l.length - uu.at_) ∧ Hid (Bx w H B nb cb X nx cx l M most (Value.slice A n c).ownBlock wr A' n' c' uu uu.at_ 0) ∧ Hid (RTb wr (Value.slice A' n' c').ownBlock LA k g1 ls) ∧ Hid (RTb wr (Value.slice A' n' c').ownBlock DA kd g2 ds) ∧ Hid (codedF l M ls ds uu = codedF l M ls ds u))
   case atStart => exact ⟨A, n, c, u, rfl, HB2, HTL2, HTD, rfl⟩
   case round =>
    obtain ⟨A', n', c', ⟨a1, o1⟩, hgk, hB, hTL, hTD, hcd⟩ := hrel
    dsimp only at hgk hB
    have hle : a1 ≤ 8 * l.length := by have := hB.out.st.at_le; have := hB.out.st.brow.row.len; dsimp only at *; omega
    have hRD := rread_c (ck := ck) (cg := k) (most := most) hB.out.st hTL.out.row hTL.out.codes hTL.out.ok
    unfold sV at hRD
    dsimp only at hRD
    have t2 := hB.out.ld
    have HRD := Lib.hid hRD
    have HLE := Lib.hid hle
    clear hRD hle
    go_wp2_with (first
     | (with_reducible refine wpList_ld t2 (by with_unfolding_all rfl) ?_))
    refine HRD.out.mono ?_
    rintro e w3 (⟨z, av3, v3, h1, rfl, hb3⟩ | ⟨v, ⟨a2, o2⟩, h1, ho1, hv1, hat1, rfl, hb3⟩)
    ·have hz : z ≠ 0 := NZ.sym l ls ⟨a1, o1⟩ z h1
     have hz1 : ((z : Int) != 0) = true := by rw [bne_iff_ne]; omega
     have HR : Hid (codedF l M ls ds u = .error z) := by
      unfold Hid
      rw [← hcd.out]
      exact loopF_error (by unfold stepF; rw [h1]; rfl)
     clear t2
     have hk := (hB.out.below hb3).below ((Below.refl _ w3).alloc (Nat.le_refl _) (.cells #[.slice B nb cb, .slice X nx cx, .int .i64 av3, .slice A' n' c', .int .i64 most, .int .i64 z] 80))
     have hE := hk.get (Below.refl _ _) rfl hk.st.at_le av3 (z : Int)
     have t1 := hk.stp av3 A' n' c' z
     have t2 := hE.ld
     have t3 := hE.stq
     obtain ⟨⟨c0, c1, c2, c3, c4, c5⟩, f0, f1, f2, f3, f4, f5⟩ := hE.k1.six
     have HE := Lib.hid hE
     clear h1 hz hb3 hk hE
     go_wp2_with (first
      | (with_reducible refine wpList_ld t2 (by with_unfolding_all rfl) ?_)
      | (with_reducible refine wpList_st t1 (by with_unfolding_all rfl) (by with_unfolding_all rfl) ?_)
      | (with_reducible refine wpList_st t3 (by with_unfolding_all rfl) (by with_unfolding_all rfl) ?_))
     obtain ⟨z0, z1, z2, z3, z4, z5⟩ := HE.out.q6 (.slice B nb cb) (.slice X nx cx) (.int .i64 av3) (.slice A' n' c') (.int .i64 most) (.int .i64 z)
     refine bodyPost_ret (v := .agg #[.slice B nb cb, .slice X nx cx, .int .i64 av3, .slice A' n' c', .int .i64 most, .int .i64 z]) (by simp [results, Tryz.results45, go_sem, z0, z1, z2, z3, z4, z5]) rfl ?_
     exact .inl ⟨z, _, _, _, _, _, HR0.out.trans HR.out, rfl, HE.out.ends _⟩
    ·dsimp only at ho1 hat1 ⊢
     have h1n := symF_prog h1
     have H1 := Lib.hid h1
     have hv288 : v < 288 := by omega
     clear t2 HRD
     have hb3' : Below wr.heap.size wr (w3.alloc (.cells #[.slice B nb cb, .slice X nx cx, .int .i64 a2, .slice A' n' c', .int .i64 most, .int .i64 0] 80)) := hb3.alloc hb3.size _
     have hk := hB.out.below hb3'
     have hB3 := hk.get (u' := ⟨a2, o2⟩) (Below.refl _ _) ho1 hat1 (a2 : Int) 0
     have hTL3 := (hTL.out.rout (ROut.ofBelow hb3')).setRow (p := w.heap.size) (by have := HGG.out.1; omega) HAP.out.1 #[.slice B nb cb, .slice X nx cx, .int .i64 a2, .slice A' n' c', .int .i64 most, .int .i64 0]
     have hTD3 := (hTD.out.rout (ROut.ofBelow hb3')).setRow (p := w.heap.size) (by have := HGG.out.2; omega) HAP.out.2 #[.slice B nb cb, .slice X nx cx, .int .i64 a2, .slice A' n' c', .int .i64 most, .int .i64 0]
     have t1 := hk.stp a2 A' n' c' 0
     have t2 := hB3.ld
     have t3 := hB3.stq
     obtain ⟨⟨c0, c1, c2, c3, c4, c5⟩, f0, f1, f2, f3, f4, f5⟩ := hB3.k1.six
     have HB3 := Lib.hid hB3
     have HTL3 := Lib.hid hTL3
     have HTD3 := Lib.hid hTD3
     generalize hW3 : (w3.alloc (.cells #[.slice B nb cb, .slice X nx cx, .int .i64 a2, .slice A' n' c', .int .i64 most, .int .i64 0] 80)).setRow w.heap.size #[.slice B nb cb, .slice X nx cx, .int .i64 a2, .slice A' n' c', .int .i64 most, .int .i64 0] = W3 at *
     clear hW3 hk hB3 hTL3 hTD3 hb3' hb3 ho1 hat1 h1 h1n hTL hTD hB
     by_cases e1 : v < 256
     ·have hi : (v : Int) < 256 := by omega
      have hne : ((v : Int) == 256) = false := by rw [beq_eq_false_iff_ne]; omega
      have hst : Hid (stepF l M ls ds ⟨a1, o1⟩ = bnd (putF M (ofN v) ⟨a2, o2⟩) fun u2 => .ok (false, u2)) := by
       unfold Hid stepF
       rw [H1.out, bnd_ok, if_neg (by show ¬ v = 256; omega), if_pos e1]
      have hP := rput_c HB3.out.st HM.out (ofN v)
      rw [ofN_n v e1] at hP
      unfold sV at hP
      dsimp only at hP
      have HP := Lib.hid hP
      clear hP e1
      go_wp2_with (first
       | (with_reducible refine wpList_st t1 (by with_unfolding_all rfl) (by with_unfolding_all rfl) ?_)
       | (with_reducible refine wpList_ld t2 (by with_unfolding_all rfl) ?_))
      refine HP.out.mono ?_
      rintro e w4 (⟨h4, rfl, hb4⟩ | ⟨A4, c4', h4, rfl, hU4, hO4⟩)
      ·have HR : Hid (codedF l M ls ds u = .error 6) := by
        unfold Hid
        rw [← hcd.out]
        exact loopF_error (by rw [hst.out, h4]; rfl)
       clear t1 t2 t3 c0 c1 c2 c3 c4 c5 f0 f1 f2 f3 f4 f5
       have hk := HB3.out.below hb4
       have hE := hk.get (Below.refl _ _) rfl hk.st.at_le a2 6
       have t1 := hk.stp a2 A' n' c' 6
       have t2 := hE.ld
       have t3 := hE.stq
       obtain ⟨⟨c0, c1, c2, c3, c4, c5⟩, f0, f1, f2, f3, f4, f5⟩ := hE.k1.six
       have HE := Lib.hid hE
       clear h4 hb4 hk hE
       go_wp2_with (first
        | (with_reducible refine wpList_ld t2 (by with_unfolding_all rfl) ?_)
        | (with_reducible refine wpList_st t1 (by with_unfolding_all rfl) (by with_unfolding_all rfl) ?_)
        | (with_reducible refine wpList_st t3 (by with_unfolding_all rfl) (by with_unfolding_all rfl) ?_))
       obtain ⟨z0, z1, z2, z3, z4, z5⟩ := HE.out.q6 (.slice B nb cb) (.slice X nx cx) (.int .i64 a2) (.slice A' n' c') (.int .i64 most) (.int .i64 6)
       refine bodyPost_ret (v := .agg #[.slice B nb cb, .slice X nx cx, .int .i64 a2, .slice A' n' c', .int .i64 most, .int .i64 6]) (by simp [results, Tryz.results45, go_sem, z0, z1, z2, z3, z4, z5]) rfl ?_
       exact .inl ⟨6, _, _, _, _, _, HR0.out.trans HR.out, rfl, HE.out.ends _⟩
      ·have hst2 : stepF l M ls ds ⟨a1, o1⟩ = .ok (false, ⟨a2, o2 ++ [ofN v]⟩) := by rw [hst.out, h4]; rfl
       have hp2 := stepF_prog HLE.out hst2
       have HR : Hid (codedF l M ls ds ⟨a2, o2 ++ [ofN v]⟩ = codedF l M ls ds u) := by
        unfold Hid
        rw [← hcd.out]
        exact (loopF_more hst2 hp2.1 hp2.2).symm
       have hms : Hid (8 * l.length - a2 < gk) := by
        have h1 := hp2.1
        have h2 := hp2.2
        have h3 := hgk.out
        unfold Hid
        dsimp only at h1 h2 h3 ⊢
        omega
       clear t1 t2 t3 c0 c1 c2 c3 c4 c5 f0 f1 f2 f3 f4 f5
       have t1 := store_sV (hO4.blk HB3.out.k1 HB3.out.np.1) rfl B nb cb X nx cx a2 A4 (n' + 1) c4' most 0
       have hB4 := HB3.out.put hO4 hU4 a2 0
       have hTL4 := (HTL3.out.rout hO4).setRow (p := w.heap.size) (by have := HGG.out.1; omega) HAP.out.1 #[.slice B nb cb, .slice X nx cx, .int .i64 a2, .slice A4 (n' + 1) c4', .int .i64 most, .int .i64 0]
       have hTD4 := (HTD3.out.rout hO4).setRow (p := w.heap.size) (by have := HGG.out.2; omega) HAP.out.2 #[.slice B nb cb, .slice X nx cx, .int .i64 a2, .slice A4 (n' + 1) c4', .int .i64 most, .int .i64 0]
       obtain ⟨⟨c0, c1, c2, c3, c4, c5⟩, f0, f1, f2, f3, f4, f5⟩ := hB4.k1.six
       have HB4 := Lib.hid hB4
       have HTL4 := Lib.hid hTL4
       have HTD4 := Lib.hid hTD4
       clear hst2 hp2 hB4 hTL4 hTD4 hU4 hO4 h4
       go_wp2_with (first
        | (with_reducible refine wpList_st t1 (by with_unfolding_all rfl) (by with_unfolding_all rfl) ?_))
       go_roundg (8 * l.length - a2)
       case measure => exact hms.out
       case rel => exact ⟨A4, n' + 1, c4', ⟨a2, o2 ++ [ofN v]⟩, rfl, HB4, HTL4, HTD4, HR⟩
     ·by_cases e2 : v = 256
      ·subst e2
       have HR : Hid (codedF l M ls ds u = .ok ⟨a2, o2⟩) := by
        unfold Hid
        rw [← hcd.out]
        exact loopF_done (by unfold stepF; rw [H1.out]; rfl)
       clear e1
       go_wp2_with (first
        | (with_reducible refine wpList_ld t2 (by with_unfolding_all rfl) ?_)
        | (with_reducible refine wpList_st t1 (by with_unfolding_all rfl) (by with_unfolding_all rfl) ?_)
        | (with_reducible refine wpList_st t3 (by with_unfolding_all rfl) (by with_unfolding_all rfl) ?_))
       obtain ⟨z0, z1, z2, z3, z4, z5⟩ := HB3.out.q6 (.slice B nb cb) (.slice X nx cx) (.int .i64 a2) (.slice A' n' c') (.int .i64 most) (.int .i64 0)
       refine bodyPost_ret (v := .agg #[.slice B nb cb, .slice X nx cx, .int .i64 a2, .slice A' n' c', .int .i64 most, .int .i64 0]) (by simp [results, Tryz.results45, go_sem, z0, z1, z2, z3, z4, z5]) rfl ?_
       exact .inr ⟨A', n', c', ⟨a2, o2⟩, HR0.out.trans HR.out, rfl, HB3.out.endst _, HB3.out.ends _⟩
      ·have hge : ¬ (v : Int) < 256 := by omega
       have hne : ((v : Int) == 256) = false := by rw [beq_eq_false_iff_ne]; omega
       have hst : Hid (stepF l M ls ds ⟨a1, o1⟩ = bnd (matchF l M ds v ⟨a2, o2⟩) fun u2 => .ok (false, u2)) := by
        unfold Hid stepF
        rw [H1.out, bnd_ok, if_neg e2, if_neg e1]
       have hP := rmatch_c (ck := cd) (cg := kd) HB3.out.st HM.out HTD3.out v (by omega)
       unfold sV at hP
       dsimp only at hP
       have HP := Lib.hid hP
       clear hP e1 e2
       go_wp2_with (first
        | (with_reducible refine wpList_st t1 (by with_unfolding_all rfl) (by with_unfolding_all rfl) ?_)
        | (with_reducible refine wpList_ld t2 (by with_unfolding_all rfl) ?_))
       refine HP.out.mono ?_
       rintro e w4 (⟨z, av4, A4, n4, c4', b4, h4, rfl, hO4⟩ | ⟨A4, n4, c4', ⟨a4, o4⟩, h4, rfl, hU4, hO4⟩)
       ·have hz : z ≠ 0 := NZ.mat l M ds v _ z h4
        have hz1 : ((z : Int) != 0) = true := by rw [bne_iff_ne]; omega
        have HR : Hid (codedF l M ls ds u = .error z) := by
         unfold Hid
         rw [← hcd.out]
         exact loopF_error (by rw [hst.out, h4]; rfl)
        clear t1 t2 t3 c0 c1 c2 c3 c4 c5 f0 f1 f2 f3 f4 f5
        have k0 := hO4.blk HB3.out.k1 HB3.out.np.1
        have k1 := k0.setRow #[.slice B nb cb, .slice X nx cx, .int .i64 av4, .slice A4 n4 c4', .int .i64 most, .int .i64 z]
        have k2 : Blk (w4.setRow w.heap.size #[.slice B nb cb, .slice X nx cx, .int .i64 av4, .slice A4 n4 c4', .int .i64 most, .int .i64 z]) (w.heap.size + 1) 80 zC := (blk_setRow_other (by simp) _).trans (hO4.blk HB3.out.k2 HB3.out.np.2)
        have t1 := store_sV k0 rfl B nb cb X nx cx av4 A4 n4 c4' most z
        have t2 := load_st k1 rfl
        have t3 := store_sV k2 rfl B nb cb X nx cx av4 A4 n4 c4' most z
        obtain ⟨⟨c0, c1, c2, c3, c4, c5⟩, f0, f1, f2, f3, f4, f5⟩ := k1.six
        obtain ⟨⟨z0, z1, z2, z3, z4, z5⟩, _⟩ := (k2.setRow #[.slice B nb cb, .slice X nx cx, .int .i64 av4, .slice A4 n4 c4', .int .i64 most, .int .i64 z]).six
        have HO := Lib.hid (((HB3.out.out.trans hO4).setRow (Nat.le_refl _) #[.slice B nb cb, .slice X nx cx, .int .i64 av4, .slice A4 n4 c4', .int .i64 most, .int .i64 z]).setRow (g := w.heap.size + 1) (by omega) #[.slice B nb cb, .slice X nx cx, .int .i64 av4, .slice A4 n4 c4', .int .i64 most, .int .i64 z])
        clear h4 hz hO4 k0 k1 k2
        go_wp2_with (first
         | (with_reducible refine wpList_ld t2 (by with_unfolding_all rfl) ?_)
         | (with_reducible refine wpList_st t1 (by with_unfolding_all rfl) (by with_unfolding_all rfl) ?_)
         | (with_reducible refine wpList_st t3 (by with_unfolding_all rfl) (by with_unfolding_all rfl) ?_))
        refine bodyPost_ret (v := .agg #[.slice B nb cb, .slice X nx cx, .int .i64 av4, .slice A4 n4 c4', .int .i64 most, .int .i64 z]) (by simp [results, Tryz.results45, go_sem, z0, z1, z2, z3, z4, z5]) rfl ?_
        exact .inl ⟨z, _, _, _, _, _, HR0.out.trans HR.out, rfl, HO.out⟩
       ·have hst2 : stepF l M ls ds ⟨a1, o1⟩ = .ok (false, ⟨a4, o4⟩) := by rw [hst.out, h4]; rfl
        have hp2 := stepF_prog HLE.out hst2
        have HR : Hid (codedF l M ls ds ⟨a4, o4⟩ = codedF l M ls ds u) := by
         unfold Hid
         rw [← hcd.out]
         exact (loopF_more hst2 hp2.1 hp2.2).symm
        have hms : Hid (8 * l.length - a4 < gk) := by
         have h1 := hp2.1
         have h2 := hp2.2
         have h3 := hgk.out
         unfold Hid
         dsimp only at h1 h2 h3 ⊢
         omega
        dsimp only at hU4 hO4 ⊢
        clear t1 t2 t3 c0 c1 c2 c3 c4 c5 f0 f1 f2 f3 f4 f5
        have t1 := store_sV (hO4.blk HB3.out.k1 HB3.out.np.1) rfl B nb cb X nx cx a4 A4 n4 c4' most 0
        have hB4 := HB3.out.put hO4 hU4 a4 0
        have hTL4 := (HTL3.out.rout hO4).setRow (p := w.heap.size) (by have := HGG.out.1; omega) HAP.out.1 #[.slice B nb cb, .slice X nx cx, .int .i64 a4, .slice A4 n4 c4', .int .i64 most, .int .i64 0]
        have hTD4 := (HTD3.out.rout hO4).setRow (p := w.heap.size) (by have := HGG.out.2; omega) HAP.out.2 #[.slice B nb cb, .slice X nx cx, .int .i64 a4, .slice A4 n4 c4', .int .i64 most, .int .i64 0]
        obtain ⟨⟨c0, c1, c2, c3, c4, c5⟩, f0, f1, f2, f3, f4, f5⟩ := hB4.k1.six
        have HB4 := Lib.hid hB4
        have HTL4 := Lib.hid hTL4
        have HTD4 := Lib.hid hTD4
        clear hst2 hp2 hB4 hTL4 hTD4 hU4 hO4 h4
        go_wp2_with (first
         | (with_reducible refine wpList_st t1 (by with_unfolding_all rfl) (by with_unfolding_all rfl) ?_))
        go_roundg (8 * l.length - a4)
        case measure => exact hms.out
        case rel => exact ⟨A4, n4, c4', ⟨a4, o4⟩, rfl, HB4, HTL4, HTD4, HR⟩
end
end Go.Proofs.YtldgdofefcehnaaGreatDoor
