/-
  THE CONTRACTS OF THE DOCUMENT's OWN ANSWERS FOR LAYER 12: Fixed. No conditions.
  THE CONTRACTS OF THE DOCUMENT's OWN ANSWERS FOR LAYER 12: Unpack. No conditions. (Written by wip/gen12x.py.)
-/
import Derived.Test.YtldgdofefcehnaaGreatDoorInfQ
import Derived.Test.YtldgdofefcehnaaGreatDoorInfW
import Derived.Test.YtldgdofefcehnaaGreatDoorInfM
namespace Go.Proofs.YtldgdofefcehnaaGreatDoor
section
open Go.RowKit
set_option maxRecDepth 100000
set_option linter.unusedVariables false
theorem fixL_at {i : Nat} (h : i < 288) : fixL.take (i + 1) = fixL.take i ++ [(if 256 ≤ i ∧ i < 280 then 7 else if 144 ≤ i ∧ i < 256 then 9 else 8 : Int)] := by
 have : ∀ i, i < 288 → fixL.take (i + 1) = fixL.take i ++ [(if 256 ≤ i ∧ i < 280 then 7 else if 144 ≤ i ∧ i < 256 then 9 else 8 : Int)] := by decide +kernel
 exact this i h
theorem fixD_at {i : Nat} (h : i < 32) : fixD.take (i + 1) = fixD.take i ++ [(5 : Int)] := by
 have : ∀ i, i < 32 → fixD.take (i + 1) = fixD.take i ++ [(5 : Int)] := by decide +kernel
 exact this i h
theorem fix_all : fixL.take 288 = fixL ∧ fixD.take 32 = fixD := by decide +kernel
theorem below_grow {w wr w' : World} {o : Obj} {row : Option Nat} (hb : Below w.heap.size w wr) (hg : (wr.alloc o).grownBy w' row) (hr : ∀ k, row = some k → w.heap.size ≤ k) : Below w.heap.size w w' :=
 (hb.alloc hb.size o).grown hg (hb.alloc hb.size o).size hr
set_option maxHeartbeats 4000000 in
theorem RefFixed_c (w : World) :
  Calls Tryz.prog 44 #[] w fun e w' => ∃ (A : Option Addr) (c : Nat) (B : Option Addr) (d : Nat), e = .returned (.tuple #[.slice A 288 c, .slice B 32 d]) ∧ w'.ownsRow w.heap.size 3 1 (.slice A 288 c) 288 (iC fixL) ∧ w'.ownsRow w.heap.size 3 1 (.slice B 32 d) 32 (iC fixD) ∧ Below w.heap.size w w' := by
 obtain ⟨i0, hi, hz0, hz1, hz2⟩ := info_parts info_int
 go_enter Tryz.func44, Tryz.ntmps44
 go_wp2
 have h1 : ((w.alloc (.cells #[] 3)).alloc (.cells #[] 3)).ownsRow w.heap.size 3 1 (.slice (some ⟨w.heap.size, 0, none⟩) 0 0) 0 [] := (World.ownsRow_made w #[] 0 (Nat.le_refl _) (Nat.zero_le _) rfl).alloc _
 have h2 : ((w.alloc (.cells #[] 3)).alloc (.cells #[] 3)).ownsRow w.heap.size 3 1 (.slice (some ⟨w.heap.size + 1, 0, none⟩) 0 0) 0 [] := by
  have := World.ownsRow_made (base := w.heap.size) (e := 3) (size := 1) (w.alloc (.cells #[] 3)) #[] 0 (by simp) (Nat.zero_le _) rfl
  simpa using this
 have hb := ((Below.refl w.heap.size w).alloc (Nat.le_refl _) (.cells #[] 3)).alloc (by simp) (.cells #[] 3)
 have hs : ((w.alloc (.cells #[] 3)).alloc (.cells #[] 3)).heap.size = w.heap.size + 2 := by simp
 generalize ((w.alloc (.cells #[] 3)).alloc (.cells #[] 3)) = W at *
 have H1 := Lib.hid h1
 have H2 := Lib.hid h2
 have HB := Lib.hid hb
 have HS := Lib.hid hs
 clear h1 h2 hb hs
 go_loopw [2, 4] (fun lv iv wr => ∃ (i c g : Nat), i ≤ 288 ∧ iv = .int .i64 i ∧ lv = .slice (some ⟨g, 0, none⟩) i c ∧ Hid (g ≠ w.heap.size + 1) ∧ Hid (wr.ownsRow w.heap.size 3 1 (.slice (some ⟨g, 0, none⟩) i c) i (iC (fixL.take i))) ∧ Hid (wr.ownsRow w.heap.size 3 1 (.slice (some ⟨w.heap.size + 1, 0, none⟩) 0 0) 0 []) ∧ Hid (Below w.heap.size w wr) ∧ Hid (w.heap.size + 2 ≤ wr.heap.size)) (fun _ iv _ => 288 - (intOf iv).toNat)
 case atStart => exact ⟨0, 0, w.heap.size, by omega, rfl, rfl, by unfold Hid; omega, H1, H2, HB, by unfold Hid; have := HS.out; omega⟩
 case round =>
  obtain ⟨i, c, g, hi288, rfl, rfl, hg, hown, hd, hbel, hsz⟩ := hrel
  by_cases hlt : i < 288
  ·have hlt2 : (i : Int) < 288 := by omega
   have hx := fixL_at hlt
   obtain ⟨v, hv⟩ : ∃ v : Int, v = (if 256 ≤ i ∧ i < 280 then 7 else if 144 ≤ i ∧ i < 256 then 9 else 8 : Int) := ⟨_, rfl⟩
   rw [← hv] at hx
   have HX := Lib.hid hx
   clear hx
   have hcase : (i < 144 ∧ v = 8) ∨ (144 ≤ i ∧ i < 256 ∧ v = 9) ∨ (256 ≤ i ∧ i < 280 ∧ v = 7) ∨ (280 ≤ i ∧ v = 8) := by
    rw [hv]
    by_cases a1 : i < 144
    ·left; exact ⟨a1, by rw [if_neg (by omega), if_neg (by omega)]⟩
    by_cases a2 : i < 256
    ·right; left; exact ⟨by omega, a2, by rw [if_neg (by omega), if_pos (by omega)]⟩
    by_cases a3 : i < 280
    ·right; right; left; exact ⟨by omega, a3, by rw [if_pos (by omega)]⟩
    ·right; right; right; exact ⟨by omega, by rw [if_neg (by omega), if_neg (by omega)]⟩
   clear hv
   rcases hcase with ⟨a1, hv⟩ | ⟨a1, a2, hv⟩ | ⟨a1, a2, hv⟩ | ⟨a1, hv⟩
   all_goals
    subst hv
   case' inl => have p1 : ¬ (144 : Int) ≤ (i : Int) := by omega
                have p2 : ¬ (256 : Int) ≤ (i : Int) := by omega
   case' inr.inl => have p1 : (144 : Int) ≤ (i : Int) := by omega
                    have p2 : ¬ (256 : Int) ≤ (i : Int) := by omega
                    have p3 : (i : Int) < 256 := by omega
   case' inr.inr.inl => have p1 : (144 : Int) ≤ (i : Int) := by omega
                        have p2 : (256 : Int) ≤ (i : Int) := by omega
                        have p3 : ¬ (i : Int) < 256 := by omega
                        have p4 : (i : Int) < 280 := by omega
   case' inr.inr.inr => have p1 : (144 : Int) ≤ (i : Int) := by omega
                        have p2 : (256 : Int) ≤ (i : Int) := by omega
                        have p3 : ¬ (i : Int) < 256 := by omega
                        have p4 : ¬ (i : Int) < 280 := by omega
   all_goals
    go_wp2_with (at_builtin; refine wpList_append_lies _ rfl (.tmp 25) (.tmp 27) 49 rfl w.heap.size 3 i0 (.int .i64 0) 1 8 Tryz.underlying49 hi hz0 hz1 hz2 rfl (by decide) (.slice (some ⟨g, 0, none⟩) i c) i (iC (fixL.take i)) rfl (hown.out.alloc _) ⟨wr.heap.size, 0, none⟩ 1 1 [_] rfl rfl (one_cell wr _ _) (by intro u hu; simp at hu; subst hu; rfl) (by omega) (by unfold maxLen; omega) (by omega) (by have := hbel.out.size; simp; omega) _ rfl ?_; intro g' c' w' hown' hg' hat' _)
    have hne : Hid (g' ≠ w.heap.size + 1) := by
     unfold Hid
     rcases hat' with e | e
     ·have : g = g' := by simpa [Value.ownBlock] using e
      have := hg.out; omega
     ·have := hsz.out; simp at e; omega
    have hB' : Hid (Below w.heap.size w w') := below_grow hbel.out hg' (fun k hk => (hown.out.lt k hk).1)
    have hS' : Hid (w.heap.size + 2 ≤ w'.heap.size) := by have h9 := hg'.size; rw [World.size_alloc] at h9; have := hsz.out; unfold Hid; omega
    have hD' : Hid (w'.ownsRow w.heap.size 3 1 (.slice (some ⟨w.heap.size + 1, 0, none⟩) 0 0) 0 []) := own_kept (hd.out.alloc _) hg' (fun k hk => by
     have hk2 : w.heap.size + 1 = k := by simpa [Value.ownBlock] using hk
     intro e
     have hk3 : g = k := by simpa [Value.ownBlock] using e
     have := hg.out; omega)
    have hO' : Hid (w'.ownsRow w.heap.size 3 1 (.slice (some ⟨g', 0, none⟩) (i + 1) c') (i + 1) (iC (fixL.take (i + 1)))) := by
     unfold Hid
     rw [HX.out, iC_append]
     exact hown'
    clear hown' hg' hat'
    go_wp2
    go_roundw
    case rel => exact ⟨i + 1, c', g', by omega, by go_num, rfl, hne, hO', hD', hB', hS'⟩
    case measure => simp [intOf]; omega
  ·have hlt2 : ¬ (i : Int) < 288 := by omega
   have hi : i = 288 := by omega
   have HL : Hid (wr.ownsRow w.heap.size 3 1 (.slice (some ⟨g, 0, none⟩) i c) i (iC fixL)) := by have := hown.out; rw [hi, fix_all.1] at this; rw [hi]; exact this
   have HI := Lib.hid hi
   clear hown hi hlt
   go_wp2
   go_loopw [3, 6] (fun lv iv wr => ∃ (j d g2 : Nat), j ≤ 32 ∧ iv = .int .i64 j ∧ lv = .slice (some ⟨g2, 0, none⟩) j d ∧ Hid (g ≠ g2) ∧ Hid (wr.ownsRow w.heap.size 3 1 (.slice (some ⟨g2, 0, none⟩) j d) j (iC (fixD.take j))) ∧ Hid (wr.ownsRow w.heap.size 3 1 (.slice (some ⟨g, 0, none⟩) i c) i (iC fixL)) ∧ Hid (Below w.heap.size w wr)) (fun _ iv _ => 32 - (intOf iv).toNat)
   case atStart => exact ⟨0, 0, w.heap.size + 1, by omega, rfl, rfl, hg, hd, HL, hbel⟩
   case round =>
    obtain ⟨j, d, g2, hi32, rfl, rfl, hg2, hown, hl2, hbel2⟩ := hrel
    by_cases hlt : j < 32
    ·have hlt3 : (j : Int) < 32 := by omega
     have HX := Lib.hid (fixD_at hlt)
     go_wp2_with (at_builtin; refine wpList_append_lies _ rfl (.tmp 33) (.tmp 34) 49 rfl w.heap.size 3 i0 (.int .i64 0) 1 8 Tryz.underlying49 hi hz0 hz1 hz2 rfl (by decide) (.slice (some ⟨g2, 0, none⟩) j d) j (iC (fixD.take j)) rfl (hown.out.alloc _) ⟨wr.heap.size, 0, none⟩ 1 1 [_] rfl rfl (one_cell wr _ _) (by intro u hu; simp at hu; subst hu; rfl) (by omega) (by unfold maxLen; omega) (by omega) (by have := hbel2.out.size; simp; omega) _ rfl ?_; intro g' c' w' hown' hg' hat' _)
     have hne : Hid (g ≠ g') := by
      unfold Hid
      rcases hat' with e | e
      ·have : g2 = g' := by simpa [Value.ownBlock] using e
       have := hg2.out; omega
      ·have := (hl2.out.lt g rfl).2; simp at e; omega
     have hB' : Hid (Below w.heap.size w w') := below_grow hbel2.out hg' (fun k hk => (hown.out.lt k hk).1)
     have hD' : Hid (w'.ownsRow w.heap.size 3 1 (.slice (some ⟨g, 0, none⟩) i c) i (iC fixL)) := own_kept (hl2.out.alloc _) hg' (fun k hk => by
      have hk2 : g = k := by simpa [Value.ownBlock] using hk
      intro e
      have hk3 : g2 = k := by simpa [Value.ownBlock] using e
      have := hg2.out; omega)
     have hO' : Hid (w'.ownsRow w.heap.size 3 1 (.slice (some ⟨g', 0, none⟩) (j + 1) c') (j + 1) (iC (fixD.take (j + 1)))) := by
      unfold Hid
      rw [HX.out, iC_append]
      exact hown'
     clear hown' hg' hat'
     go_wp2
     go_roundw
     case rel => exact ⟨j + 1, c', g', by omega, by go_num, rfl, hne, hO', hD', hB'⟩
     case measure => simp [intOf]; omega
    ·have hlt3 : ¬ (j : Int) < 32 := by omega
     have hj : j = 32 := by omega
     have HJ := Lib.hid hj
     clear hj hlt
     go_wp2
     go_ret2
     have hd := hown.out
     have hl := hl2.out
     rw [HI.out] at hl ⊢
     rw [HJ.out] at hd ⊢
     rw [fix_all.2] at hd
     exact ⟨_, c, _, d, rfl, hl, hd, hbel2.out⟩
end
section
open Go.RowKit
set_option maxRecDepth 100000
set_option linter.unusedVariables false
structure Ux (H : Nat) (B : Option Addr) (nb cb : Nat) (X : Option Addr) (nx cx : Nat) (l : List F) (M : Nat) (most : Int) (W0 : World) (p : Nat) (wr : World) (A : Option Addr) (n c : Nat) (u : Un) (av E : Int) : Prop where
 k1 : Blk wr p 80 #[.slice B nb cb, .slice X nx cx, .int .i64 av, .slice A n c, .int .i64 most, .int .i64 E]
 st : RSt wr H B nb cb X nx cx l A n c u M
 bel : Below H W0 wr
 np : (Value.slice A n c).ownBlock ≠ some p
 hp : H ≤ p
namespace Ux
variable {H : Nat} {B : Option Addr} {nb cb : Nat} {X : Option Addr} {nx cx : Nat} {l : List F} {M : Nat} {most : Int} {W0 : World} {p : Nat} {wr w' : World} {A A' : Option Addr} {n c n' c' : Nat} {u u' : Un} {av E : Int}
theorem below (h : Ux H B nb cb X nx cx l M most W0 p wr A n c u av E) (hb : Below wr.heap.size wr w') : Ux H B nb cb X nx cx l M most W0 p w' A n c u av E :=
 ⟨h.k1.below h.k1.lt hb, h.st.below hb h.st.at_le rfl, h.bel.trans (hb.mono h.st.here), h.np, h.hp⟩
theorem drewN (h : Ux H B nb cb X nx cx l M most W0 p wr A n c u av E) (q : Nat) : Ux H B nb cb X nx cx l M most W0 p (wr.drewN q) A n c u av E :=
 h.below (w' := wr.drewN q) (below_drewN (Below.refl _ _) q)
theorem put (h : Ux H B nb cb X nx cx l M most W0 p wr A n c u av E) (ho : ROut (Value.slice A n c).ownBlock (Value.slice A' n' c').ownBlock wr w') (hs : RSt w' H B nb cb X nx cx l A' n' c' u' M) (av' E' : Int) :
  Ux H B nb cb X nx cx l M most W0 p (w'.setRow p #[.slice B nb cb, .slice X nx cx, .int .i64 av', .slice A' n' c', .int .i64 most, .int .i64 E']) A' n' c' u' av' E' :=
 have hnp := ho.two h.np h.k1.lt
 ⟨(ho.blk h.k1 h.np).setRow _, hs.setRow h.hp hnp _, below_setRow (h.bel.trans (ho.below h.st.here (fun g hg => (h.st.own.lt g hg).1))) h.hp _, hnp, h.hp⟩
theorem get (h : Ux H B nb cb X nx cx l M most W0 p wr A n c u av E) (ho : u'.out = u.out) (ha : u'.at_ ≤ 8 * nb) (av' E' : Int) :
  Ux H B nb cb X nx cx l M most W0 p (wr.setRow p #[.slice B nb cb, .slice X nx cx, .int .i64 av', .slice A n c, .int .i64 most, .int .i64 E']) A n c u' av' E' :=
 h.put (ROut.refl _ _) (h.st.below (Below.refl _ _) ha ho) av' E'
theorem setFar (h : Ux H B nb cb X nx cx l M most W0 p wr A n c u av E) {q : Nat} (hq : H ≤ q) (hne : (Value.slice A n c).ownBlock ≠ some q) (hqp : p ≠ q) (D : Array Value) : Ux H B nb cb X nx cx l M most W0 p (wr.setRow q D) A n c u av E :=
 ⟨(blk_setRow_other hqp D).trans h.k1, h.st.setRow hq hne D, below_setRow h.bel hq D, h.np, h.hp⟩
theorem err (h : Ux H B nb cb X nx cx l M most W0 p wr A n c u av E) (E' : Int) : Ux H B nb cb X nx cx l M most W0 p (wr.setCell ⟨p, 5, none⟩ (.int .i64 E')) A n c u av E' := by
 rw [setCell_blk h.k1]
 exact h.get rfl h.st.at_le av E'
theorem ld (h : Ux H B nb cb X nx cx l M most W0 p wr A n c u av E) : Sem.run Tryz.prog (loadVar 80 ⟨p, 0, none⟩) wr = .ok (.agg #[.slice B nb cb, .slice X nx cx, .int .i64 av, .slice A n c, .int .i64 most, .int .i64 E]) wr := load_st h.k1 rfl
theorem stp (h : Ux H B nb cb X nx cx l M most W0 p wr A n c u av E) (at_ : Int) (A' : Option Addr) (n' c' : Nat) (E' : Int) :
  Sem.run Tryz.prog (storeVar 80 ⟨p, 0, none⟩ (.agg #[.slice B nb cb, .slice X nx cx, .int .i64 at_, .slice A' n' c', .int .i64 most, .int .i64 E'])) wr = .ok () (wr.setRow p #[.slice B nb cb, .slice X nx cx, .int .i64 at_, .slice A' n' c', .int .i64 most, .int .i64 E']) := store_sV h.k1 rfl B nb cb X nx cx at_ A' n' c' most E'
end Ux
set_option maxHeartbeats 8000000 in
theorem RefUnpack_c (w : World) (B : Option Addr) (nb cb : Nat) (l : List F) (hl : RowIn w B nb cb l) (hk : nb ≤ 10000) (most : Int) (M : Nat) (hm : max most 0 = (M : Int)) (hM : M ≤ 1000000) :
  Calls Tryz.prog 13 #[.slice B nb cb, .int .i64 most] w fun e w' => UnpEnd w (unpF l M) e w' := by
 have HBI := Lib.hid (RefBits_c B nb cb l w hl.row hk)
 have HL := Lib.hid hl
 have HM := Lib.hid hm
 clear hl hm
 go_enter Tryz.func13, Tryz.ntmps13
 go_wp2_with fail
 refine HBI.out.mono ?_
 rintro e w1 ⟨gx, cx, rfl, hown1, hb1⟩
 have hU0 : Ux w1.heap.size B nb cb (some ⟨gx, 0, none⟩) (8 * nb) cx l M most w1 w1.heap.size (w1.alloc (.cells #[.slice B nb cb, .slice (some ⟨gx, 0, none⟩) (8 * nb) cx, .int .i64 0, .slice none 0 0, .int .i64 most, .int .i64 0] 80)) none 0 0 ⟨0, []⟩ 0 0 :=
  ⟨Blk.new w1 _ _, ⟨(HL.out.below hb1).below ((Below.refl _ w1).alloc (Nat.le_refl _) _), ((own_in hown1).below ((Below.refl _ w1).alloc (Nat.le_refl _) _)), World.ownsRow_nil _ _ _ _, fun h0 b o e => by
    subst e
    obtain ⟨b', o', e', hl, _⟩ := HL.out.row.2.2 (by omega)
    injection e' with e'
    injection e' with e1 _ _
    have := hb1.size
    omega, fun h0 b o e => by injection e with e; injection e with e _ _; have := (hown1.lt gx rfl).2; omega, by simp, ⟨hk, Nat.zero_le _, hM⟩, Nat.zero_le _⟩, (Below.refl _ _).alloc (Nat.le_refl _) _, (fun e => by cases e), Nat.le_refl _⟩
 have HB1 := Lib.hid hb1
 have HPW : Hid (w.heap.size ≤ w1.heap.size) := hb1.size
 have HU0 := Lib.hid hU0
 clear hU0 hown1 hb1 HBI
 go_wp2
 generalize hX : (some (⟨gx, 0, none⟩ : Addr)) = X at *
 generalize hnx : 8 * nb = nx at *
 have HLEN := Lib.hid HL.out.row.len
 generalize hp : w1.heap.size = p at *
 go_loopg [8] (8 * l.length) (fun gk lv wr => ∃ (x : Nat) (A : Option Addr) (n c : Nat) (uu : Un), lv = .int .i64 x ∧ x < 2 ∧ Hid (gk = 8 * l.length - uu.at_) ∧ Hid (Ux p B nb cb X nx cx l M most w1 p wr A n c uu uu.at_ 0) ∧ Hid (x = 0 ∧ loopF (8 * l.length) (unbF l M) uu = unpF l M ∨ x ≠ 0 ∧ unpF l M = .ok uu))
 case atStart => exact ⟨0, none, 0, 0, ⟨0, []⟩, rfl, by omega, by simp [Hid], HU0, .inl ⟨rfl, rfl⟩⟩
 case round =>
  obtain ⟨x, A, n, c, ⟨a0, o0⟩, rfl, hx2, hgk, hU, hF⟩ := hrel
  dsimp only at hU hgk
  have hale := hU.out.st.at_le
  dsimp only at hale
  by_cases hx : x = 0
  ·have hxb : ((x : Int) == 0) = true := by rw [beq_iff_eq]; omega
   have hUF : Hid (loopF (8 * l.length) (unbF l M) ⟨a0, o0⟩ = unpF l M) := by
    rcases hF.out with h1 | h1
    ·exact h1.2
    ·omega
   have HG := Lib.hid (rget_c (most := most) hU.out.st 1 (by omega))
   unfold sV at HG
   dsimp only at HG
   have t2 := hU.out.ld
   have hA0 : a0 ≤ 8 * l.length := by have := HLEN.out; omega
   have HA0 := Lib.hid hA0
   clear hF hA0
   go_wp2_with (first
    | (with_reducible refine wpList_ld t2 (by with_unfolding_all rfl) ?_))
   refine HG.out.mono ?_
   clear t2 hx
   rintro e w2 (⟨z, av1, g1, rfl, hb1⟩ | ⟨v1, ⟨a1, o1⟩, g1, ho1, hv1, ha1, rfl, hb1⟩)
   ·have hz : z ≠ 0 := NZ.num l 1 ⟨a0, o0⟩ z g1
    have hz1 : ((z : Int) != 0) = true := by rw [bne_iff_ne]; omega
    have HR : Hid (unpF l M = .error z) := by unfold Hid; rw [← hUF.out]; exact loopF_error (by unfold unbF; rw [g1]; rfl)
    have hk := hU.out.below (hb1.alloc hb1.size (.cells #[.slice B nb cb, .slice X nx cx, .int .i64 av1, .slice A n c, .int .i64 most, .int .i64 z] 80))
    have hE := hk.get rfl hk.st.at_le av1 (z : Int)
    have t1 := hk.stp av1 A n c z
    obtain ⟨⟨c0, c1, c2, c3, c4, c5⟩, f0, f1, f2, f3, f4, f5⟩ := hE.k1.six
    have HE := Lib.hid hE
    clear g1 hz hb1 hk hE
    go_wp2_with (first
     | (with_reducible refine wpList_st t1 (by with_unfolding_all rfl) (by with_unfolding_all rfl) ?_))
    go_quiet (fail)
    go_wp2
    go_ret3
    exact .inl ⟨z, HR.out, rfl, below_drewN (HB1.out.trans (HE.out.bel.mono HPW.out)) _⟩
   ·dsimp only at ho1 ha1 ⊢
    have hv2 : v1 < 2 := hv1
    have G1 := Lib.hid g1
    have hk := hU.out.below (hb1.alloc hb1.size (.cells #[.slice B nb cb, .slice X nx cx, .int .i64 a1, .slice A n c, .int .i64 most, .int .i64 0] 80))
    have hU2 := hk.get (u' := ⟨a1, o1⟩) ho1 ha1 (a1 : Int) 0
    have hwsz := hb1.size
    have hplt := hU.out.k1.lt
    have HQ : Hid (p ≤ w2.heap.size ∧ (Value.slice A n c).ownBlock ≠ some w2.heap.size ∧ p ≠ w2.heap.size) := ⟨by omega, fun e => by have := (hU.out.st.own.lt _ e).2; omega, by omega⟩
    have hk9 : Blk ((w2.alloc (.cells #[.slice B nb cb, .slice X nx cx, .int .i64 a1, .slice A n c, .int .i64 most, .int .i64 0] 80)).setRow p #[.slice B nb cb, .slice X nx cx, .int .i64 a1, .slice A n c, .int .i64 most, .int .i64 0]) w2.heap.size 80 #[.slice B nb cb, .slice X nx cx, .int .i64 a1, .slice A n c, .int .i64 most, .int .i64 0] := (blk_setRow_other (by omega) _).trans (Blk.new w2 _ _)
    have t1 := hk.stp a1 A n c 0
    have t2 := hU2.ld
    have HG2 := Lib.hid (rget_c (most := most) hU2.st 2 (by omega))
    unfold sV at HG2
    dsimp only at HG2
    obtain ⟨⟨c0, c1, c2, c3, c4, c5⟩, f0, f1, f2, f3, f4, f5⟩ := hU2.k1.six
    have HU2 := Lib.hid hU2
    have HK9 := Lib.hid hk9
    generalize (w2.alloc (.cells #[.slice B nb cb, .slice X nx cx, .int .i64 a1, .slice A n c, .int .i64 most, .int .i64 0] 80)).setRow p #[.slice B nb cb, .slice X nx cx, .int .i64 a1, .slice A n c, .int .i64 most, .int .i64 0] = W2 at *
    generalize hq : w2.heap.size = q at *
    clear hk hU2 hk9 hb1 ho1 ha1 hv1 g1 hwsz hplt hU HG
    go_wp2_with (first
     | (with_reducible refine wpList_ld t2 (by with_unfolding_all rfl) ?_)
     | (with_reducible refine wpList_st t1 (by with_unfolding_all rfl) (by with_unfolding_all rfl) ?_))
    refine HG2.out.mono ?_
    clear t1 t2 c0 c1 c2 c3 c4 c5 f0 f1 f2 f3 f4 f5
    rintro e w3 (⟨z, av1, g1, rfl, hb1⟩ | ⟨k, ⟨a2, o2⟩, g1, ho1, hk4, ha1, rfl, hb1⟩)
    ·have hz : z ≠ 0 := NZ.num l 2 ⟨a1, o1⟩ z g1
     have hz1 : ((z : Int) != 0) = true := by rw [bne_iff_ne]; omega
     have HR : Hid (unpF l M = .error z) := by unfold Hid; rw [← hUF.out]; exact loopF_error (by unfold unbF; rw [G1.out, bnd_ok, g1]; rfl)
     have k9 := HK9.out.below HK9.out.lt hb1
     have hk := (HU2.out.below hb1).setFar HQ.out.1 HQ.out.2.1 HQ.out.2.2 #[.slice B nb cb, .slice X nx cx, .int .i64 av1, .slice A n c, .int .i64 most, .int .i64 z]
     have hE := hk.get rfl hk.st.at_le av1 (z : Int)
     have t0 := store_sV k9 rfl B nb cb X nx cx av1 A n c most z
     have t4 := load_st (k9.setRow #[.slice B nb cb, .slice X nx cx, .int .i64 av1, .slice A n c, .int .i64 most, .int .i64 z]) rfl
     have t1 := hk.stp av1 A n c z
     obtain ⟨⟨c0, c1, c2, c3, c4, c5⟩, f0, f1, f2, f3, f4, f5⟩ := hE.k1.six
     have HE := Lib.hid hE
     clear g1 hz hb1 hk hE k9
     go_wp2_with (first
      | (with_reducible refine wpList_st t0 (by with_unfolding_all rfl) (by with_unfolding_all rfl) ?_)
      | (with_reducible refine wpList_ld t4 (by with_unfolding_all rfl) ?_)
      | (with_reducible refine wpList_st t1 (by with_unfolding_all rfl) (by with_unfolding_all rfl) ?_))
     go_quiet (fail)
     go_wp2
     go_ret3
     exact .inl ⟨z, HR.out, rfl, below_drewN (HB1.out.trans (HE.out.bel.mono HPW.out)) _⟩
    ·dsimp only at ho1 ha1 ⊢
     have hk4 : k < 4 := hk4
     obtain ⟨KK, hKK⟩ : ∃ KK, KK = (if k = 0 then stoF l M ⟨a2, o2⟩ else if k = 1 then blockF l M fixL fixD ⟨a2, o2⟩ else if k = 2 then dynF l M ⟨a2, o2⟩ else .error 32) := ⟨_, rfl⟩
     have HUN : Hid (unbF l M ⟨a0, o0⟩ = bnd KK fun u2 => .ok (decide (v1 ≠ 0), u2)) := by
      unfold Hid unbF
      rw [G1.out, bnd_ok, g1, bnd_ok, hKK]
     have HKK := Lib.hid hKK
     have k9 := HK9.out.below HK9.out.lt hb1
     have hk := (HU2.out.below hb1).setFar HQ.out.1 HQ.out.2.1 HQ.out.2.2 #[.slice B nb cb, .slice X nx cx, .int .i64 a2, .slice A n c, .int .i64 most, .int .i64 0]
     have hU3 := hk.get (u' := ⟨a2, o2⟩) ho1 ha1 (a2 : Int) 0
     have t0 := store_sV k9 rfl B nb cb X nx cx a2 A n c most 0
     have t4 := load_st (k9.setRow #[.slice B nb cb, .slice X nx cx, .int .i64 a2, .slice A n c, .int .i64 most, .int .i64 0]) rfl
     have t1 := hk.stp a2 A n c 0
     obtain ⟨⟨c0, c1, c2, c3, c4, c5⟩, f0, f1, f2, f3, f4, f5⟩ := hU3.k1.six
     have HU3 := Lib.hid hU3
     generalize (w3.setRow q #[.slice B nb cb, .slice X nx cx, .int .i64 a2, .slice A n c, .int .i64 most, .int .i64 0]).setRow p #[.slice B nb cb, .slice X nx cx, .int .i64 a2, .slice A n c, .int .i64 most, .int .i64 0] = W3 at *
     clear g1 ho1 ha1 hb1 k9 hk hU3 HU2 HK9 HG2 hKK
     go_upto_if 45 with (first
      | (with_reducible refine wpList_st t0 (by with_unfolding_all rfl) (by with_unfolding_all rfl) ?_)
      | (with_reducible refine wpList_ld t4 (by with_unfolding_all rfl) ?_)
      | (with_reducible refine wpList_st t1 (by with_unfolding_all rfl) (by with_unfolding_all rfl) ?_))
     clear t0 t4 t1
     have t2 := HU3.out.ld
     go_cut [11] (fun s11 wx => s11 = .int .i64 k ∧ ((∃ (z : Nat) (av : Int) (A' : Option Addr) (n' c' : Nat), Hid (z ≠ 0 ∧ KK = .error z) ∧ Hid (Blk wx p 80 #[.slice B nb cb, .slice X nx cx, .int .i64 av, .slice A' n' c', .int .i64 most, .int .i64 z]) ∧ Hid (Below p w1 wx)) ∨ (∃ (A' : Option Addr) (n' c' : Nat) (u2 : Un), Hid (KK = .ok u2) ∧ Hid (Ux p B nb cb X nx cx l M most w1 p wx A' n' c' u2 u2.at_ 0))))
     case first =>
      by_cases k0 : k = 0
      ·have b0 : ((k : Int) == 0) = true := by rw [beq_iff_eq]; omega
       have HC := Lib.hid (rstored_c (most := most) HU3.out.st HM.out)
       have HKR : Hid (KK = stoF l M ⟨a2, o2⟩) := by unfold Hid; rw [HKK.out, if_pos k0]
       unfold sV at HC
       dsimp only at HC
       go_wp2_with (first
        | (with_reducible refine wpList_ld t2 (by with_unfolding_all rfl) ?_))
       refine HC.out.mono ?_
       rintro e w4 (⟨z, av4, A4, n4, c4', b4, g4, rfl, hO4⟩ | ⟨A4, n4, c4', ⟨a4, o4⟩, g4, rfl, hU4, hO4⟩)
       ·have hz : z ≠ 0 := (NZ.sto _ _ _) z g4
        have HR : Hid (KK = .error z) := by unfold Hid; rw [HKR.out, g4]
        have kk := hO4.blk HU3.out.k1 HU3.out.np
        have t1 := store_sV kk rfl B nb cb X nx cx av4 A4 n4 c4' most z
        have HK := Lib.hid (kk.setRow #[.slice B nb cb, .slice X nx cx, .int .i64 av4, .slice A4 n4 c4', .int .i64 most, .int .i64 z])
        have HBW := Lib.hid (below_setRow (HU3.out.bel.trans (hO4.below HU3.out.st.here (fun g hg => (HU3.out.st.own.lt g hg).1))) HU3.out.hp #[.slice B nb cb, .slice X nx cx, .int .i64 av4, .slice A4 n4 c4', .int .i64 most, .int .i64 z])
        clear hO4 kk g4
        go_wp2_with (first
         | (with_reducible refine wpList_st t1 (by with_unfolding_all rfl) (by with_unfolding_all rfl) ?_))
        go_meet
        case rel => exact ⟨by rw [k0]; rfl, .inl ⟨z, av4, A4, n4, c4', ⟨hz, HR.out⟩, HK, HBW⟩⟩
       ·have HR : Hid (KK = .ok ⟨a4, o4⟩) := by unfold Hid; rw [HKR.out, g4]
        dsimp only
        have kk := hO4.blk HU3.out.k1 HU3.out.np
        have t1 := store_sV kk rfl B nb cb X nx cx a4 A4 n4 c4' most 0
        have HK := Lib.hid (HU3.out.put hO4 hU4 a4 0)
        clear hO4 hU4 kk g4
        go_wp2_with (first
         | (with_reducible refine wpList_st t1 (by with_unfolding_all rfl) (by with_unfolding_all rfl) ?_))
        go_meet
        case rel => exact ⟨by rw [k0]; rfl, .inr ⟨A4, n4, c4', ⟨a4, o4⟩, HR, HK⟩⟩
      ·have b0 : ((k : Int) == 0) = false := by rw [beq_eq_false_iff_ne]; omega
       by_cases k1 : k = 1
       ·have b1 : ((k : Int) == 1) = true := by rw [beq_iff_eq]; omega
        have HKR : Hid (KK = blockF l M fixL fixD ⟨a2, o2⟩) := by unfold Hid; rw [HKK.out, if_neg k0, if_pos k1]
        go_wp2_with fail
        refine (RefFixed_c W3).mono ?_
        rintro e w5 ⟨FA, fc, FB, fd, rfl, hfa, hfb, hbf⟩
        have hU5 := HU3.out.below hbf
        have hRA : RLn w5 (Value.slice A n c).ownBlock FA 288 fixL := ⟨IRow.ofOwn hfa (by decide +kernel) (by unfold maxLen; omega), fun b o e => by subst e; exact ⟨(hfa.lt b rfl).2, fun e2 => by have := (HU3.out.st.own.lt _ e2).2; have := (hfa.lt b rfl).1; omega⟩⟩
        have hRB : RLn w5 (Value.slice A n c).ownBlock FB 32 fixD := ⟨IRow.ofOwn hfb (by decide +kernel) (by unfold maxLen; omega), fun b o e => by subst e; exact ⟨(hfb.lt b rfl).2, fun e2 => by have := (HU3.out.st.own.lt _ e2).2; have := (hfb.lt b rfl).1; omega⟩⟩
        have HC := Lib.hid (rblock_c (ck := fc) (cd := fd) (most := most) hU5.st HM.out hRA hRB)
        clear t2 c0 c1 c2 c3 c4 c5 f0 f1 f2 f3 f4 f5
        have t2 := hU5.ld
        obtain ⟨⟨c0, c1, c2, c3, c4, c5⟩, f0, f1, f2, f3, f4, f5⟩ := hU5.k1.six
        have HU5 := Lib.hid hU5
        clear hfa hfb hbf hU5 hRA hRB
        unfold sV at HC
        dsimp only at HC
        go_wp2_with (first
         | (with_reducible refine wpList_ld t2 (by with_unfolding_all rfl) ?_))
        refine HC.out.mono ?_
        rintro e w4 (⟨z, av4, A4, n4, c4', b4, g4, rfl, hO4⟩ | ⟨A4, n4, c4', ⟨a4, o4⟩, g4, rfl, hU4, hO4⟩)
        ·have hz : z ≠ 0 := (NZ.blk _ _ _ _ _) z g4
         have HR : Hid (KK = .error z) := by unfold Hid; rw [HKR.out, g4]
         have kk := hO4.blk HU5.out.k1 HU5.out.np
         have t1 := store_sV kk rfl B nb cb X nx cx av4 A4 n4 c4' most z
         have HK := Lib.hid (kk.setRow #[.slice B nb cb, .slice X nx cx, .int .i64 av4, .slice A4 n4 c4', .int .i64 most, .int .i64 z])
         have HBW := Lib.hid (below_setRow (HU5.out.bel.trans (hO4.below HU5.out.st.here (fun g hg => (HU5.out.st.own.lt g hg).1))) HU5.out.hp #[.slice B nb cb, .slice X nx cx, .int .i64 av4, .slice A4 n4 c4', .int .i64 most, .int .i64 z])
         clear hO4 kk g4
         go_wp2_with (first
          | (with_reducible refine wpList_st t1 (by with_unfolding_all rfl) (by with_unfolding_all rfl) ?_))
         go_meet
         case rel => exact ⟨by rw [k1]; rfl, .inl ⟨z, av4, A4, n4, c4', ⟨hz, HR.out⟩, HK, HBW⟩⟩
        ·have HR : Hid (KK = .ok ⟨a4, o4⟩) := by unfold Hid; rw [HKR.out, g4]
         dsimp only
         have kk := hO4.blk HU5.out.k1 HU5.out.np
         have t1 := store_sV kk rfl B nb cb X nx cx a4 A4 n4 c4' most 0
         have HK := Lib.hid (HU5.out.put hO4 hU4 a4 0)
         clear hO4 hU4 kk g4
         go_wp2_with (first
          | (with_reducible refine wpList_st t1 (by with_unfolding_all rfl) (by with_unfolding_all rfl) ?_))
         go_meet
         case rel => exact ⟨by rw [k1]; rfl, .inr ⟨A4, n4, c4', ⟨a4, o4⟩, HR, HK⟩⟩
       ·have b1 : ((k : Int) == 1) = false := by rw [beq_eq_false_iff_ne]; omega
        by_cases k2 : k = 2
        ·have b2 : ((k : Int) == 2) = true := by rw [beq_iff_eq]; omega
         have HC := Lib.hid (rdynamic_c (most := most) HU3.out.st HM.out)
         have HKR : Hid (KK = dynF l M ⟨a2, o2⟩) := by unfold Hid; rw [HKK.out, if_neg k0, if_neg k1, if_pos k2]
         unfold sV at HC
         dsimp only at HC
         go_wp2_with (first
          | (with_reducible refine wpList_ld t2 (by with_unfolding_all rfl) ?_))
         refine HC.out.mono ?_
         rintro e w4 (⟨z, av4, A4, n4, c4', b4, g4, rfl, hO4⟩ | ⟨A4, n4, c4', ⟨a4, o4⟩, g4, rfl, hU4, hO4⟩)
         ·have hz : z ≠ 0 := (NZ.dyn _ _ _) z g4
          have HR : Hid (KK = .error z) := by unfold Hid; rw [HKR.out, g4]
          have kk := hO4.blk HU3.out.k1 HU3.out.np
          have t1 := store_sV kk rfl B nb cb X nx cx av4 A4 n4 c4' most z
          have HK := Lib.hid (kk.setRow #[.slice B nb cb, .slice X nx cx, .int .i64 av4, .slice A4 n4 c4', .int .i64 most, .int .i64 z])
          have HBW := Lib.hid (below_setRow (HU3.out.bel.trans (hO4.below HU3.out.st.here (fun g hg => (HU3.out.st.own.lt g hg).1))) HU3.out.hp #[.slice B nb cb, .slice X nx cx, .int .i64 av4, .slice A4 n4 c4', .int .i64 most, .int .i64 z])
          clear hO4 kk g4
          go_wp2_with (first
           | (with_reducible refine wpList_st t1 (by with_unfolding_all rfl) (by with_unfolding_all rfl) ?_))
          go_meet
          case rel => exact ⟨by rw [k2]; rfl, .inl ⟨z, av4, A4, n4, c4', ⟨hz, HR.out⟩, HK, HBW⟩⟩
         ·have HR : Hid (KK = .ok ⟨a4, o4⟩) := by unfold Hid; rw [HKR.out, g4]
          dsimp only
          have kk := hO4.blk HU3.out.k1 HU3.out.np
          have t1 := store_sV kk rfl B nb cb X nx cx a4 A4 n4 c4' most 0
          have HK := Lib.hid (HU3.out.put hO4 hU4 a4 0)
          clear hO4 hU4 kk g4
          go_wp2_with (first
           | (with_reducible refine wpList_st t1 (by with_unfolding_all rfl) (by with_unfolding_all rfl) ?_))
          go_meet
          case rel => exact ⟨by rw [k2]; rfl, .inr ⟨A4, n4, c4', ⟨a4, o4⟩, HR, HK⟩⟩
        ·have b2 : ((k : Int) == 2) = false := by rw [beq_eq_false_iff_ne]; omega
         have HKR : Hid (KK = .error 32) := by unfold Hid; rw [HKK.out, if_neg k0, if_neg k1, if_neg k2]
         have HE := Lib.hid (HU3.out.err 32)
         go_wp2_with fail
         go_meet
         case rel => exact ⟨rfl, .inl ⟨32, a2, A, n, c, ⟨by omega, HKR.out⟩, HE.out.k1, HE.out.bel⟩⟩
     case rest =>
      obtain ⟨rfl, hcut⟩ := hcut
      clear t2 c0 c1 c2 c3 c4 c5 f0 f1 f2 f3 f4 f5
      rcases hcut with ⟨z, av, A', n', c', hz, hk1, hbl⟩ | ⟨A', n', c', ⟨a4, o4⟩, hK, hU4⟩
      ·have hz1 : ((z : Int) != 0) = true := by rw [bne_iff_ne]; have := hz.out.1; omega
       have HR : Hid (unpF l M = .error z) := by unfold Hid; rw [← hUF.out]; exact loopF_error (by rw [HUN.out, hz.out.2]; rfl)
       obtain ⟨⟨c0, c1, c2, c3, c4, c5⟩, f0, f1, f2, f3, f4, f5⟩ := hk1.out.six
       go_wp2_with fail
       go_quiet (fail)
       go_wp2
       go_ret3
       exact .inl ⟨z, HR.out, rfl, below_drewN (HB1.out.trans (hbl.out.mono HPW.out)) _⟩
      ·dsimp only at hU4
       have hub : unbF l M ⟨a0, o0⟩ = .ok (decide (v1 ≠ 0), ⟨a4, o4⟩) := by rw [HUN.out, hK.out]; rfl
       have hpg := unbF_prog HA0.out hub
       dsimp only at hpg
       have hF2 : Hid (v1 = 0 ∧ loopF (8 * l.length) (unbF l M) ⟨a4, o4⟩ = unpF l M ∨ v1 ≠ 0 ∧ unpF l M = .ok ⟨a4, o4⟩) := by
        unfold Hid
        rw [← hUF.out]
        by_cases h9 : v1 = 0
        ·left
         refine ⟨h9, ?_⟩
         rw [decide_eq_false (by omega)] at hub
         exact (loopF_more hub hpg.1 hpg.2).symm
        ·right
         refine ⟨h9, ?_⟩
         rw [decide_eq_true h9] at hub
         exact loopF_done hub
       have hms : Hid (8 * l.length - a4 < gk) := by have := hgk.out; unfold Hid; omega
       obtain ⟨⟨c0, c1, c2, c3, c4, c5⟩, f0, f1, f2, f3, f4, f5⟩ := hU4.out.k1.six
       clear hub hpg
       go_wp2
       go_roundg (8 * l.length - a4)
       case measure => exact hms.out
       case rel => exact ⟨v1, A', n', c', ⟨a4, o4⟩, rfl, hv2, rfl, hU4, hF2.out⟩
  ·have hxb : ((x : Int) == 0) = false := by rw [beq_eq_false_iff_ne]; omega
   have HE : Hid (unpF l M = .ok ⟨a0, o0⟩) := by
    rcases hF.out with h1 | h1
    ·omega
    ·exact h1.2
   obtain ⟨⟨c0, c1, c2, c3, c4, c5⟩, f0, f1, f2, f3, f4, f5⟩ := hU.out.k1.six
   obtain ⟨qq, hqq⟩ : ∃ qq, qq = (a0 + 7) / 8 := ⟨_, rfl⟩
   have hdiv : ((a0 : Int) + 7).tdiv 8 = (qq : Int) := by rw [Int.tdiv_eq_ediv_of_nonneg (by omega)]; omega
   have ha1 : a0 ≤ 80000 := by omega
   have hw : IntKind.i64.wrap (qq : Int) = (qq : Int) := IntWalk.i64_in _ (by omega)
   have HQQ := Lib.hid hqq
   clear hx hqq hF
   go_wp2
   go_quiet (fail)
   go_wp2
   go_ret3
   exact .inr ⟨⟨a0, o0⟩, A, n, c, HE.out, by rw [HQQ.out]; rfl, own_base (hU.out.drewN _).st.own HPW.out, below_drewN (HB1.out.trans (hU.out.bel.mono HPW.out)) _⟩
end
end Go.Proofs.YtldgdofefcehnaaGreatDoor
