/-
  THE CONTRACTS OF THE DOCUMENT's OWN ANSWERS FOR LAYER 12: dynamic. No conditions. (Written by wip/gen12w.py.)
-/
import Derived.Test.YtldgdofefcehnaaGreatDoorInfV
import Derived.Test.YtldgdofefcehnaaGreatDoorInfH
namespace Go.Proofs.YtldgdofefcehnaaGreatDoor
open Go.RowKit
set_option maxRecDepth 100000
set_option linter.unusedVariables false
section
variable {w : World} {H : Nat} {B : Option Addr} {nb cb : Nat} {X : Option Addr} {nx cx : Nat} {l : List F} {A : Option Addr} {n c : Nat} {u : Un} {M : Nat} {most : Int}
structure OwR (w : World) (H : Nat) (B : Option Addr) (nb cb : Nat) (X : Option Addr) (nx cx : Nat) (l : List F) (A : Option Addr) (n c : Nat) (M : Nat) (most : Int) (gl go_ : Nat) (wr : World) (own : List Int) (uu : Un) (av E : Int) : Prop where
 len : own.length = 19
 small : Small own
 own : wr.ownsRow gl 3 1 (.slice (some ⟨gl, 0, none⟩) 19 19) 19 (iC own)
 ord : IRow wr (some ⟨go_, 0, none⟩) 19 .i64 ordL
 bx : Bx w H B nb cb X nx cx l M most (Value.slice A n c).ownBlock wr A n c uu av E
 ne : gl ≠ go_ ∧ w.heap.size + 2 ≤ gl ∧ w.heap.size + 2 ≤ go_
 loA : ∀ x, (Value.slice A n c).ownBlock = some x → x < w.heap.size
namespace OwR
variable {gl go_ : Nat} {wr w' : World} {own : List Int} {uu uu' : Un} {av E : Int}
theorem below (h : OwR w H B nb cb X nx cx l A n c M most gl go_ wr own uu av E) (hb : Below wr.heap.size wr w') : OwR w H B nb cb X nx cx l A n c M most gl go_ w' own uu av E :=
 ⟨h.len, h.small, own_grow h.own hb, h.ord.below hb, h.bx.below hb, h.ne, h.loA⟩
theorem get (h : OwR w H B nb cb X nx cx l A n c M most gl go_ wr own uu av E) (ho : uu'.out = uu.out) (ha : uu'.at_ ≤ 8 * nb) (av' E' : Int) :
  OwR w H B nb cb X nx cx l A n c M most gl go_ (wr.setRow w.heap.size #[.slice B nb cb, .slice X nx cx, .int .i64 av', .slice A n c, .int .i64 most, .int .i64 E']) own uu' av' E' :=
 ⟨h.len, h.small, own_blk h.own (fun x hx => blk_setRow_other (by have := ob hx; have := h.ne; omega) _), by
  have hr := h.ord
  refine ⟨hr.len, hr.max, fun hn => ?_, hr.wf⟩
  obtain ⟨b', o', e, hl, hc⟩ := hr.cells hn
  injection e with e
  injection e with e1 e2 _
  subst e1 e2
  refine ⟨go_, 0, rfl, by simpa [World.setRow] using hl, fun i hi => ?_⟩
  rw [World.cell?_of_block (a := ⟨go_, 0 + i, none⟩) (blk_setRow_other (show go_ ≠ w.heap.size by have := h.ne; omega) _)]
  exact hc i hi, h.bx.get (Below.refl _ _) ho ha av' E', h.ne, h.loA⟩
theorem put (h : OwR w H B nb cb X nx cx l A n c M most gl go_ wr own uu av E) {s v : Nat} (hs : s < 19) (hv : v ≤ 300) : OwR w H B nb cb X nx cx l A n c M most gl go_ (wr.setCell ⟨gl, s, none⟩ (.int .i64 (v : Nat))) (own.set s (v : Int)) uu av E := by
 have hst := (h.own.stored s (.int .i64 (v : Nat))).1
 rw [iC_set] at hst
 have hne := h.ne
 have hbl : ∀ k, k ≠ gl → (wr.setCell ⟨gl, s, none⟩ (.int .i64 (v : Nat))).heap[k]? = wr.heap[k]? := fun k hk => Go.Deep.blk_setCell_other wr _ _ k hk
 have hsz : (wr.setCell ⟨gl, s, none⟩ (.int .i64 (v : Nat))).heap.size = wr.heap.size := by simp [World.setCell]
 have hbel : Below (w.heap.size + 2) wr (wr.setCell ⟨gl, s, none⟩ (.int .i64 (v : Nat))) := (Below.refl _ _).setCell hne.2.1 _
 have hb2 := h.bx
 refine ⟨by rw [List.length_set]; exact h.len, h.small.set (by omega) s, hst, ?_, ⟨?_, ?_, ⟨?_, ?_, ?_, hb2.st.lob, hb2.st.lox, by rw [hsz]; exact hb2.st.here, hb2.st.few, hb2.st.at_le⟩, ⟨hb2.out.os, hb2.out.tape, hb2.out.output, by rw [hsz]; exact hb2.out.size, fun x hx hn => (hbl x (by omega)).trans (hb2.out.block x hx hn), hb2.out.nw⟩, hb2.np, hb2.hH⟩, h.ne, h.loA⟩
 ·have hr := h.ord
  refine ⟨hr.len, hr.max, fun hn => ?_, hr.wf⟩
  obtain ⟨b', o', e, hl, hc⟩ := hr.cells hn
  injection e with e
  injection e with e1 e2 _
  subst e1 e2
  refine ⟨go_, 0, rfl, by rw [hsz]; exact hl, fun i hi => ?_⟩
  rw [World.cell?_of_block (a := ⟨go_, 0 + i, none⟩) (hbl go_ (by omega))]
  exact hc i hi
 ·have hk := hb2.k1
  unfold Blk at hk ⊢
  rw [hbl _ (by omega)]; exact hk
 ·have hk := hb2.k2
  unfold Blk at hk ⊢
  rw [hbl _ (by omega)]; exact hk
 ·exact hb2.st.brow.lowH (hbel.mono (by have := hb2.hH; omega)) hb2.st.lob
 ·exact hb2.st.bits.lowH (hbel.mono (by have := hb2.hH; omega)) hb2.st.lox
 ·exact own_blk hb2.st.own fun x hx => hbl x (by have := h.loA x hx; omega)
end OwR
set_option maxHeartbeats 8000000 in
theorem rdynamic_c (h : RSt w H B nb cb X nx cx l A n c u M) (hm : max most 0 = (M : Int)) :
  Calls Tryz.prog 46 #[sV B nb cb X nx cx u.at_ A n c most 0] w fun e w' => RWent w H B nb cb X nx cx l A n c M most (dynF l M u) e w' := by
 obtain ⟨i0, hi, hz0, hz1, hz2⟩ := info_parts info_int
 have HB0 := Lib.hid (Bx.start (most := most) h u.at_ 0)
 have HOWN : Hid (∀ g, (Value.slice A n c).ownBlock = some g → g < w.heap.size) := fun g hg => (h.own.lt g hg).2
 have HM := Lib.hid hm
 unfold sV
 obtain ⟨a0, o0⟩ := u
 dsimp only at HB0 ⊢
 go_enter Tryz.func46, Tryz.ntmps46
 have t2 := HB0.out.ld
 clear h hm
 have HG1 := Lib.hid (rget_c (most := most) HB0.out.st 5 (by omega))
 unfold sV at HG1
 dsimp only at HG1
 clear t2
 go_wp2_with fail
 refine HG1.out.mono ?_
 rintro e w1 (⟨z, av1, g1, rfl, hb1⟩ | ⟨m1, ⟨a1, o1⟩, g1, ho1, hv1, ha1, rfl, hb1⟩)
 ·have hz : z ≠ 0 := NZ.num l 5 ⟨a0, o0⟩ z g1
  have hz1 : ((z : Int) != 0) = true := by rw [bne_iff_ne]; omega
  have HR : Hid (dynF l M ⟨a0, o0⟩ = .error z) := by unfold Hid dynF dynHF; rw [g1]; rfl
  clear g1 hz
  have hk := HB0.out.below hb1
  have hE := hk.get (Below.refl _ _) rfl hk.st.at_le av1 (z : Int)
  have t1 := hk.stp av1 A n c z
  have t2 := hE.ld
  have t3 := hE.stq
  obtain ⟨⟨c0, c1, c2, c3, c4, c5⟩, f0, f1, f2, f3, f4, f5⟩ := hE.k1.six
  have HE := Lib.hid hE
  clear hk hE
  go_wp2_with (first
   | (with_reducible refine wpList_ld t2 (by with_unfolding_all rfl) ?_)
   | (with_reducible refine wpList_st t1 (by with_unfolding_all rfl) (by with_unfolding_all rfl) ?_)
   | (with_reducible refine wpList_st t3 (by with_unfolding_all rfl) (by with_unfolding_all rfl) ?_))
  obtain ⟨z0, z1, z2, z3, z4, z5⟩ := HE.out.q6 (.slice B nb cb) (.slice X nx cx) (.int .i64 av1) (.slice A n c) (.int .i64 most) (.int .i64 z)
  refine bodyPost_ret (v := .agg #[.slice B nb cb, .slice X nx cx, .int .i64 av1, .slice A n c, .int .i64 most, .int .i64 z]) (by simp [results, Tryz.results46, go_sem, z0, z1, z2, z3, z4, z5]) rfl ?_
  exact .inl ⟨z, _, _, _, _, _, HR.out, rfl, HE.out.ends _⟩
 dsimp only at ho1 ha1 ⊢
 have hm1 : m1 < 32 := hv1
 have G1 := Lib.hid g1
 have t1 := (HB0.out.below hb1).stp a1 A n c 0
 have HB1 := Lib.hid (HB0.out.get (u' := ⟨a1, o1⟩) hb1 ho1 ha1 (a1 : Int) 0)
 generalize w1.setRow w.heap.size #[.slice B nb cb, .slice X nx cx, .int .i64 a1, .slice A n c, .int .i64 most, .int .i64 0] = W1 at *
 clear g1 ho1 hv1 ha1 hb1 HG1 HB0
 have HG2 := Lib.hid (rget_c (most := most) HB1.out.st 5 (by omega))
 unfold sV at HG2
 dsimp only at HG2
 have t2 := HB1.out.ld
 obtain ⟨⟨c0, c1, c2, c3, c4, c5⟩, f0, f1, f2, f3, f4, f5⟩ := HB1.out.k1.six
 go_wp2_with (first
  | (with_reducible refine wpList_ld t2 (by with_unfolding_all rfl) ?_)
  | (with_reducible refine wpList_st t1 (by with_unfolding_all rfl) (by with_unfolding_all rfl) ?_))
 clear t1 c0 c1 c2 c3 c4 c5 f0 f1 f2 f3 f4 f5
 refine HG2.out.mono ?_
 clear t2
 rintro e w2 (⟨z, av1, g1, rfl, hb1⟩ | ⟨d1, ⟨a2, o2⟩, g1, ho1, hv1, ha1, rfl, hb1⟩)
 ·have hz : z ≠ 0 := NZ.num l 5 ⟨a1, o1⟩ z g1
  have hz1 : ((z : Int) != 0) = true := by rw [bne_iff_ne]; omega
  have HR : Hid (dynF l M ⟨a0, o0⟩ = .error z) := by unfold Hid dynF dynHF; rw [G1.out, bnd_ok, g1]; rfl
  clear g1 hz
  have hk := HB1.out.below hb1
  have hE := hk.get (Below.refl _ _) rfl hk.st.at_le av1 (z : Int)
  have t1 := hk.stp av1 A n c z
  have t2 := hE.ld
  have t3 := hE.stq
  obtain ⟨⟨c0, c1, c2, c3, c4, c5⟩, f0, f1, f2, f3, f4, f5⟩ := hE.k1.six
  have HE := Lib.hid hE
  clear hk hE
  go_wp2_with (first
   | (with_reducible refine wpList_ld t2 (by with_unfolding_all rfl) ?_)
   | (with_reducible refine wpList_st t1 (by with_unfolding_all rfl) (by with_unfolding_all rfl) ?_)
   | (with_reducible refine wpList_st t3 (by with_unfolding_all rfl) (by with_unfolding_all rfl) ?_))
  obtain ⟨z0, z1, z2, z3, z4, z5⟩ := HE.out.q6 (.slice B nb cb) (.slice X nx cx) (.int .i64 av1) (.slice A n c) (.int .i64 most) (.int .i64 z)
  refine bodyPost_ret (v := .agg #[.slice B nb cb, .slice X nx cx, .int .i64 av1, .slice A n c, .int .i64 most, .int .i64 z]) (by simp [results, Tryz.results46, go_sem, z0, z1, z2, z3, z4, z5]) rfl ?_
  exact .inl ⟨z, _, _, _, _, _, HR.out, rfl, HE.out.ends _⟩
 dsimp only at ho1 ha1 ⊢
 have hd1 : d1 < 32 := hv1
 have G2 := Lib.hid g1
 have t1 := (HB1.out.below hb1).stp a2 A n c 0
 have HB2 := Lib.hid (HB1.out.get (u' := ⟨a2, o2⟩) hb1 ho1 ha1 (a2 : Int) 0)
 generalize w2.setRow w.heap.size #[.slice B nb cb, .slice X nx cx, .int .i64 a2, .slice A n c, .int .i64 most, .int .i64 0] = W2 at *
 clear g1 ho1 hv1 ha1 hb1 HG2 HB1
 have HG3 := Lib.hid (rget_c (most := most) HB2.out.st 4 (by omega))
 unfold sV at HG3
 dsimp only at HG3
 have t2 := HB2.out.ld
 obtain ⟨⟨c0, c1, c2, c3, c4, c5⟩, f0, f1, f2, f3, f4, f5⟩ := HB2.out.k1.six
 go_wp2_with (first
  | (with_reducible refine wpList_ld t2 (by with_unfolding_all rfl) ?_)
  | (with_reducible refine wpList_st t1 (by with_unfolding_all rfl) (by with_unfolding_all rfl) ?_))
 clear t1 c0 c1 c2 c3 c4 c5 f0 f1 f2 f3 f4 f5
 refine HG3.out.mono ?_
 clear t2
 rintro e w3 (⟨z, av1, g1, rfl, hb1⟩ | ⟨k1, ⟨a3, o3⟩, g1, ho1, hv1, ha1, rfl, hb1⟩)
 ·have hz : z ≠ 0 := NZ.num l 4 ⟨a2, o2⟩ z g1
  have hz1 : ((z : Int) != 0) = true := by rw [bne_iff_ne]; omega
  have HR : Hid (dynF l M ⟨a0, o0⟩ = .error z) := by unfold Hid dynF dynHF; rw [G1.out, bnd_ok, G2.out, bnd_ok, g1]; rfl
  clear g1 hz
  have hk := HB2.out.below hb1
  have hE := hk.get (Below.refl _ _) rfl hk.st.at_le av1 (z : Int)
  have t1 := hk.stp av1 A n c z
  have t2 := hE.ld
  have t3 := hE.stq
  obtain ⟨⟨c0, c1, c2, c3, c4, c5⟩, f0, f1, f2, f3, f4, f5⟩ := hE.k1.six
  have HE := Lib.hid hE
  clear hk hE
  go_wp2_with (first
   | (with_reducible refine wpList_ld t2 (by with_unfolding_all rfl) ?_)
   | (with_reducible refine wpList_st t1 (by with_unfolding_all rfl) (by with_unfolding_all rfl) ?_)
   | (with_reducible refine wpList_st t3 (by with_unfolding_all rfl) (by with_unfolding_all rfl) ?_))
  obtain ⟨z0, z1, z2, z3, z4, z5⟩ := HE.out.q6 (.slice B nb cb) (.slice X nx cx) (.int .i64 av1) (.slice A n c) (.int .i64 most) (.int .i64 z)
  refine bodyPost_ret (v := .agg #[.slice B nb cb, .slice X nx cx, .int .i64 av1, .slice A n c, .int .i64 most, .int .i64 z]) (by simp [results, Tryz.results46, go_sem, z0, z1, z2, z3, z4, z5]) rfl ?_
  exact .inl ⟨z, _, _, _, _, _, HR.out, rfl, HE.out.ends _⟩
 dsimp only at ho1 ha1 ⊢
 have hk1 : k1 < 16 := hv1
 have G3 := Lib.hid g1
 have t1 := (HB2.out.below hb1).stp a3 A n c 0
 have HB3 := Lib.hid (HB2.out.get (u' := ⟨a3, o3⟩) hb1 ho1 ha1 (a3 : Int) 0)
 generalize w3.setRow w.heap.size #[.slice B nb cb, .slice X nx cx, .int .i64 a3, .slice A n c, .int .i64 most, .int .i64 0] = W3 at *
 clear g1 ho1 hv1 ha1 hb1 HG3 HB2
 have HD : Hid (dynF l M ⟨a0, o0⟩ = bnd (if 286 < m1 + 257 ∨ 30 < d1 + 1 then .error 23
   else bnd (ownF l (ordN.take (k1 + 4)) (List.replicate 19 0) ⟨a3, o3⟩) fun o =>
    if errC o.1 o.1.length ≠ 0 then .error (errC o.1 o.1.length)
    else bnd (lensF l o.1 (m1 + 257 + (d1 + 1)) (m1 + 257 + (d1 + 1) + 1) [] o.2) fun a =>
     if gi a.1 256 = 0 then .error 21 else .ok ((a.1.take (m1 + 257), a.1.drop (m1 + 257)), a.2)) fun h => blockF l M h.1.1 h.1.2 h.2) := by
  unfold Hid dynF dynHF
  rw [G1.out, bnd_ok, G2.out, bnd_ok, G3.out, bnd_ok]
 obtain ⟨lits, hlits⟩ : ∃ lits, lits = m1 + 257 := ⟨_, rfl⟩
 obtain ⟨ds, hds⟩ : ∃ ds, ds = d1 + 1 := ⟨_, rfl⟩
 obtain ⟨kk, hkk⟩ : ∃ kk, kk = k1 + 4 := ⟨_, rfl⟩
 have hli : (m1 : Int) + 257 = (lits : Int) := by omega
 have hdi : (d1 : Int) + 1 = (ds : Int) := by omega
 have hki : (k1 : Int) + 4 = (kk : Int) := by omega
 have hkk19 : kk ≤ 19 := by omega
 rw [← hlits, ← hds, ← hkk] at HD
 have hlb : lits ≤ 300 ∧ ds ≤ 40 := by omega
 clear hlits hds hkk G1 G2 G3
 obtain ⟨⟨c0, c1, c2, c3, c4, c5⟩, f0, f1, f2, f3, f4, f5⟩ := HB3.out.k1.six
 by_cases hbig : 286 < lits ∨ 30 < ds
 ·have HR : Hid (dynF l M ⟨a0, o0⟩ = .error 23) := by unfold Hid; rw [HD.out, if_pos hbig]; rfl
  by_cases hb1 : 286 < lits
  ·have x1 : (286 : Int) < (lits : Int) := by omega
   clear hbig hb1
   have hE := HB3.out.err 23
   have t2 := hE.ld
   have t3 := hE.stq
   have HE := Lib.hid hE
   clear hE
   go_wp2_with (first
    | (with_reducible refine wpList_ld t2 (by with_unfolding_all rfl) ?_)
    | (with_reducible refine wpList_st t1 (by with_unfolding_all rfl) (by with_unfolding_all rfl) ?_)
    | (with_reducible refine wpList_st t3 (by with_unfolding_all rfl) (by with_unfolding_all rfl) ?_))
   obtain ⟨z0, z1, z2, z3, z4, z5⟩ := HE.out.q6 (.slice B nb cb) (.slice X nx cx) (.int .i64 a3) (.slice A n c) (.int .i64 most) (.int .i64 23)
   refine bodyPost_ret (v := .agg #[.slice B nb cb, .slice X nx cx, .int .i64 a3, .slice A n c, .int .i64 most, .int .i64 23]) (by simp [results, Tryz.results46, go_sem, z0, z1, z2, z3, z4, z5]) rfl ?_
   exact .inl ⟨23, _, _, _, _, _, HR.out, rfl, HE.out.ends _⟩
  ·have x1 : ¬ (286 : Int) < (lits : Int) := by omega
   have x2 : (30 : Int) < (ds : Int) := by omega
   clear hbig hb1
   have hE := HB3.out.err 23
   have t2 := hE.ld
   have t3 := hE.stq
   have HE := Lib.hid hE
   clear hE
   go_wp2_with (first
    | (with_reducible refine wpList_ld t2 (by with_unfolding_all rfl) ?_)
    | (with_reducible refine wpList_st t1 (by with_unfolding_all rfl) (by with_unfolding_all rfl) ?_)
    | (with_reducible refine wpList_st t3 (by with_unfolding_all rfl) (by with_unfolding_all rfl) ?_))
   obtain ⟨z0, z1, z2, z3, z4, z5⟩ := HE.out.q6 (.slice B nb cb) (.slice X nx cx) (.int .i64 a3) (.slice A n c) (.int .i64 most) (.int .i64 23)
   refine bodyPost_ret (v := .agg #[.slice B nb cb, .slice X nx cx, .int .i64 a3, .slice A n c, .int .i64 most, .int .i64 23]) (by simp [results, Tryz.results46, go_sem, z0, z1, z2, z3, z4, z5]) rfl ?_
   exact .inl ⟨23, _, _, _, _, _, HR.out, rfl, HE.out.ends _⟩
 have x1 : ¬ (286 : Int) < (lits : Int) := by omega
 have x2 : ¬ (30 : Int) < (ds : Int) := by omega
 have HD2 : Hid (dynF l M ⟨a0, o0⟩ = bnd (bnd (ownF l (ordN.take kk) (List.replicate 19 0) ⟨a3, o3⟩) fun o =>
       if errC o.1 o.1.length ≠ 0 then .error (errC o.1 o.1.length)
       else bnd (lensF l o.1 (lits + ds) (lits + ds + 1) [] o.2) fun a =>
        if gi a.1 256 = 0 then .error 21 else .ok ((a.1.take lits, a.1.drop lits), a.2)) fun h => blockF l M h.1.1 h.1.2 h.2) := by unfold Hid; rw [HD.out, if_neg hbig]
 have hl286 : lits ≤ 286 ∧ ds ≤ 30 := by omega
 have hl257 : Hid (257 ≤ lits ∧ 1 ≤ ds) := by unfold Hid; omega
 clear hbig HD
 go_wp2_with (first
  | (with_reducible refine wpList_st t1 (by with_unfolding_all rfl) (by with_unfolding_all rfl) ?_)
  | (at_make; refine wpList_make_full _ rfl _ _ 49 rfl W3.heap.size 3 i0 (.int .i64 0) 1 Tryz.underlying49 hi hz0 hz1 _ _ _ _ 19 rfl rfl rfl rfl (by rw [hz2]; omega) (by unfold maxLen; omega) (Nat.le_refl _) ?_; intro w4 hown4 hgrow4))
 rw [made_iC] at hown4
 have hb34 : Below W3.heap.size W3 w4 := (Below.refl _ W3).grown hgrow4 (Nat.le_refl _) (fun k hk => by cases hk)
 have hlt3 := HB3.out.k2.lt
 have hlt4 := (hown4.lt W3.heap.size rfl).2
 have hR5 : OwR w H B nb cb X nx cx l A n c M most W3.heap.size w4.heap.size (ordV w4) (List.replicate 19 0) ⟨a3, o3⟩ a3 0 :=
  ⟨rfl, (by unfold Small; decide +kernel), own_below hown4 (ordV_below w4), ordV_row w4, (HB3.out.below hb34).below (ordV_below w4), ⟨by omega, by omega, by omega⟩, HOWN.out⟩
 have HR5 := Lib.hid hR5
 clear t1 hown4 hgrow4 hb34 hlt3 hlt4 hR5 HB3 c0 c1 c2 c3 c4 c5 f0 f1 f2 f3 f4 f5
 go_wp2_with fail
 refine (RefOrder_c w4).mono ?_
 rintro e w5 ⟨rfl, rfl⟩
 generalize ordV w4 = w5 at *
 generalize W3.heap.size = gl at *
 generalize w4.heap.size = go_ at *
 go_wp2
 go_loopw [8] (fun iv wr => ∃ (i : Nat) (own : List Int) (uu : Un), i ≤ kk ∧ iv = .int .i64 i ∧ Hid (OwR w H B nb cb X nx cx l A n c M most gl go_ wr own uu uu.at_ 0) ∧ Hid (ownF l ((ordN.take kk).drop i) own uu = ownF l (ordN.take kk) (List.replicate 19 0) ⟨a3, o3⟩)) (fun iv _ => kk - (intOf iv).toNat)
 case atStart => exact ⟨0, List.replicate 19 0, ⟨a3, o3⟩, by omega, rfl, HR5, rfl⟩
 case round =>
  obtain ⟨i, own, ⟨a4, o4⟩, hik, rfl, hR, hF⟩ := hrel
  dsimp only at hR
  by_cases hlt : i < kk
  ·have hik2 : (i : Int) < (kk : Int) := by omega
   obtain ⟨hs1, hs2⟩ := ordN_at (i := i) (by omega)
   obtain ⟨s, hs⟩ : ∃ s, s = ordN.getD i 0 := ⟨_, rfl⟩
   rw [← hs] at hs2
   have hF2 : Hid (ownF l ((ordN.take kk).drop i) own ⟨a4, o4⟩ = bnd (numF l 3 ⟨a4, o4⟩) fun q => ownF l ((ordN.take kk).drop (i + 1)) (own.set s (q.1 : Int)) q.2) := by
    unfold Hid
    rw [ordN_drop hlt hkk19, ← hs]
    rfl
   have HS1 : Hid (gi ordL i = (s : Int)) := by unfold Hid; rw [hs1, hs]
   have hs19 : (s : Int) < 19 := by omega
   have HG := Lib.hid (rget_c (most := most) hR.out.bx.st 3 (by omega))
   unfold sV at HG
   dsimp only at HG
   have t2 := hR.out.bx.ld
   clear hs1 hs
   go_wp2_with (first
    | (with_reducible refine wpList_ld t2 (by with_unfolding_all rfl) ?_))
   refine HG.out.mono ?_
   clear t2
   rintro e w3 (⟨z, av1, g1, rfl, hb1⟩ | ⟨v, ⟨a6, o6⟩, g1, ho1, hv1, ha1, rfl, hb1⟩)
   ·have hz : z ≠ 0 := NZ.num l 3 ⟨a4, o4⟩ z g1
    have hz1 : ((z : Int) != 0) = true := by rw [bne_iff_ne]; omega
    have HR : Hid (dynF l M ⟨a0, o0⟩ = .error z) := by unfold Hid; rw [HD2.out, ← hF.out, hF2.out, g1]; rfl
    have hb2 := hb1.alloc hb1.size (.cells #[.slice B nb cb, .slice X nx cx, .int .i64 av1, .slice A n c, .int .i64 most, .int .i64 z] 80)
    clear g1 hz
    have hk := hR.out.bx.below hb2
    have hE := hk.get (Below.refl _ _) rfl hk.st.at_le av1 (z : Int)
    have t1 := hk.stp av1 A n c z
    have t2 := hE.ld
    have t3 := hE.stq
    obtain ⟨⟨c0, c1, c2, c3, c4, c5⟩, f0, f1, f2, f3, f4, f5⟩ := hE.k1.six
    have HE := Lib.hid hE
    clear hk hE
    go_wp2_with (first
     | (with_reducible refine wpList_ld t2 (by with_unfolding_all rfl) ?_)
     | (with_reducible refine wpList_st t1 (by with_unfolding_all rfl) (by with_unfolding_all rfl) ?_)
     | (with_reducible refine wpList_st t3 (by with_unfolding_all rfl) (by with_unfolding_all rfl) ?_))
    obtain ⟨z0, z1, z2, z3, z4, z5⟩ := HE.out.q6 (.slice B nb cb) (.slice X nx cx) (.int .i64 av1) (.slice A n c) (.int .i64 most) (.int .i64 z)
    refine bodyPost_ret (v := .agg #[.slice B nb cb, .slice X nx cx, .int .i64 av1, .slice A n c, .int .i64 most, .int .i64 z]) (by simp [results, Tryz.results46, go_sem, z0, z1, z2, z3, z4, z5]) rfl ?_
    exact .inl ⟨z, _, _, _, _, _, HR.out, rfl, HE.out.ends _⟩
   ·dsimp only at ho1 ha1 ⊢
    have hv8 : v < 8 := hv1
    have hF3 : Hid (ownF l ((ordN.take kk).drop (i + 1)) (own.set s (v : Int)) ⟨a6, o6⟩ = ownF l (ordN.take kk) (List.replicate 19 0) ⟨a3, o3⟩) := by unfold Hid; rw [← hF.out, hF2.out, g1]; rfl
    have hk := hR.out.below (hb1.alloc hb1.size (.cells #[.slice B nb cb, .slice X nx cx, .int .i64 a6, .slice A n c, .int .i64 most, .int .i64 0] 80))
    have hR6 := hk.get (uu' := ⟨a6, o6⟩) ho1 ha1 (a6 : Int) 0
    have t1 := hk.bx.stp a6 A n c 0
    obtain ⟨⟨c0, c1, c2, c3, c4, c5⟩, f0, f1, f2, f3, f4, f5⟩ := hR6.bx.k1.six
    obtain ⟨b1, oo1, e1, _, q1⟩ := hR6.ord.at_ (i := i) (by omega)
    injection e1 with e1
    injection e1 with e1 e2 _
    obtain rfl := e1
    obtain rfl := e2
    rw [HS1.out, Nat.zero_add] at q1
    have cs1 := hR6.own.cellAt s (by omega)
    rw [iC_at (by rw [hR6.len]; omega)] at cs1
    have fs1 := hR6.own.frozenAt s
    have HR6 := Lib.hid hR6
    have HPUT := Lib.hid (hR6.put (s := s) (v := v) (by omega) (by omega))
    clear hk hR6 g1 ho1 hv1 ha1 hb1
    generalize gi own s = y at cs1
    generalize (w3.alloc (.cells #[.slice B nb cb, .slice X nx cx, .int .i64 a6, .slice A n c, .int .i64 most, .int .i64 0] 80)).setRow w.heap.size #[.slice B nb cb, .slice X nx cx, .int .i64 a6, .slice A n c, .int .i64 most, .int .i64 0] = W6 at *
    go_wp2_with (first
     | (with_reducible refine wpList_st t1 (by with_unfolding_all rfl) (by with_unfolding_all rfl) ?_))
    go_roundw
    case rel => exact ⟨i + 1, _, ⟨a6, o6⟩, by omega, by go_num, HPUT, hF3⟩
    case measure => simp [intOf]; omega
  ·have hikn : ¬ (i : Int) < (kk : Int) := by omega
   have hE : Hid (ownF l (ordN.take kk) (List.replicate 19 0) ⟨a3, o3⟩ = .ok (own, ⟨a4, o4⟩)) := by unfold Hid; rw [← hF.out, show i = kk by omega, ordN_end kk hkk19]; rfl
   have hol := hR.out.len
   have hrow := IRow.ofOwn hR.out.own (by have := hR.out.small.wf; rwa [hol] at this) (by unfold maxLen; omega)
   have hgl := hR.out.own.lt gl rfl
   have hbelw := hR.out.bx.out.size
   have hRL : RLn wr (Value.slice A n c).ownBlock (some ⟨gl, 0, none⟩) 19 own := ⟨hrow, fun b o e => by
    injection e with e; injection e with e _ _
    refine ⟨by omega, fun e2 => ?_⟩
    have := hR.out.loA _ e2
    have := hR.out.ne
    omega⟩
   have HLN := Lib.hid (rlengths_c (ck := 19) (many := lits + ds) (most := most) hR.out.bx.st hRL (by omega) (by omega) (by have := hl257.out; omega))
   unfold sV at HLN
   dsimp only at HLN
   obtain ⟨many, hmany⟩ : ∃ many, many = lits + ds := ⟨_, rfl⟩
   have hmi : (lits : Int) + (ds : Int) = (many : Int) := by omega
   rw [← hmany] at HLN HD2
   have HMANY := Lib.hid hmany
   have HD3 : Hid (dynF l M ⟨a0, o0⟩ = bnd (if errC own 19 ≠ 0 then .error (errC own 19)
    else bnd (lensF l own many (many + 1) [] ⟨a4, o4⟩) fun a =>
     if gi a.1 256 = 0 then .error 21 else .ok ((a.1.take lits, a.1.drop lits), a.2)) fun h => blockF l M h.1.1 h.1.2 h.2) := by
    unfold Hid
    rw [HD2.out, hE.out, bnd_ok]
    show bnd (if errC own own.length ≠ 0 then _ else _) _ = _
    rw [hol]
   have t2 := hR.out.bx.ld
   have HBX := Lib.hid hR.out.bx
   have HSZ := Lib.hid hbelw
   clear hmany hrow hgl hRL hol hlt hbelw hF HD2 hR hE
   go_wp2_with (first
    | (with_reducible refine wpList_ld t2 (by with_unfolding_all rfl) ?_))
   refine HLN.out.mono ?_
   clear t2
   rintro e w6 (⟨z, av1, V, g1, rfl, hb1⟩ | ⟨row, ⟨a7, o7⟩, RA, rc, g1, g2, hrl, hsm, ho1, ha1, rfl, hown6, hb1⟩)
   ·have hz : z ≠ 0 := by
     rcases g1 with ⟨h1, h2⟩ | ⟨h1, h2⟩
     ·omega
     ·exact NZ.lens _ _ _ _ _ _ _ h2
    have hz1 : ((z : Int) != 0) = true := by rw [bne_iff_ne]; omega
    have HR : Hid (dynF l M ⟨a0, o0⟩ = .error z) := by
     unfold Hid
     rw [HD3.out]
     rcases g1 with ⟨h1, h2⟩ | ⟨h1, h2⟩
     ·rw [if_pos h1, h2]; rfl
     ·rw [if_neg (by omega), h2]; rfl
    clear g1 hz
    have hk := HBX.out.below hb1
    have hE := hk.get (Below.refl _ _) rfl hk.st.at_le av1 (z : Int)
    have t1 := hk.stp av1 A n c z
    have t2 := hE.ld
    have t3 := hE.stq
    obtain ⟨⟨c0, c1, c2, c3, c4, c5⟩, f0, f1, f2, f3, f4, f5⟩ := hE.k1.six
    have HE := Lib.hid hE
    clear hk hE
    go_wp2_with (first
     | (with_reducible refine wpList_ld t2 (by with_unfolding_all rfl) ?_)
     | (with_reducible refine wpList_st t1 (by with_unfolding_all rfl) (by with_unfolding_all rfl) ?_)
     | (with_reducible refine wpList_st t3 (by with_unfolding_all rfl) (by with_unfolding_all rfl) ?_))
    obtain ⟨z0, z1, z2, z3, z4, z5⟩ := HE.out.q6 (.slice B nb cb) (.slice X nx cx) (.int .i64 av1) (.slice A n c) (.int .i64 most) (.int .i64 z)
    refine bodyPost_ret (v := .agg #[.slice B nb cb, .slice X nx cx, .int .i64 av1, .slice A n c, .int .i64 most, .int .i64 z]) (by simp [results, Tryz.results46, go_sem, z0, z1, z2, z3, z4, z5]) rfl ?_
    exact .inl ⟨z, _, _, _, _, _, HR.out, rfl, HE.out.ends _⟩
   ·dsimp only at ho1 ha1 g2 ⊢
    have HD4 : Hid (dynF l M ⟨a0, o0⟩ = bnd (if gi row 256 = 0 then .error 21 else .ok ((row.take lits, row.drop lits), (⟨a7, o7⟩ : Un))) fun h => blockF l M h.1.1 h.1.2 h.2) := by
     unfold Hid
     rw [HD3.out, if_neg (by omega), g2, bnd_ok]
    have hm258 : 258 ≤ many ∧ many ≤ 400 := by have h1 := HMANY.out; have h2 := hl257.out; omega
    obtain ⟨g, cap, hv, _, _⟩ := hown6.form (by omega)
    injection hv with hv1 _ hv3
    subst hv1 hv3
    obtain ⟨hcl, hcm⟩ := own_bound hown6
    have hg6 := hown6.lt g rfl
    have hW : w.heap.size ≤ wr.heap.size := HSZ.out
    have hk2l := HBX.out.k2.lt
    have t1 := (HBX.out.below hb1).stp a7 A n c 0
    have hB7 := HBX.out.get (u' := ⟨a7, o7⟩) hb1 ho1 ha1 (a7 : Int) 0
    have hown7 : (w6.setRow w.heap.size #[.slice B nb cb, .slice X nx cx, .int .i64 a7, .slice A n c, .int .i64 most, .int .i64 0]).ownsRow wr.heap.size 3 1 (.slice (some ⟨g, 0, none⟩) many rc) many (iC row) := own_blk hown6 fun x hx => blk_setRow_other (by have := ob hx; omega) _
    have hrow := IRow.ofOwn hown7 (by have := hsm.wf; rwa [hrl] at this) (by unfold maxLen; omega)
    obtain ⟨⟨c0, c1, c2, c3, c4, c5⟩, f0, f1, f2, f3, f4, f5⟩ := hB7.k1.six
    obtain ⟨b1, oo1, e1, _, q1⟩ := hrow.at_ (i := 256) (by omega)
    injection e1 with e1
    injection e1 with e1 e2 _
    obtain rfl := e1
    obtain rfl := e2
    have hml : (lits : Nat) ≤ many := by have := HMANY.out; omega
    have hs1 := hrow.sub (i := 0) (j := lits) (by omega)
    have hs2 := hrow.sub (i := lits) (j := many - lits) (by omega)
    rw [Nat.add_zero, List.drop_zero] at hs1
    rw [Nat.zero_add] at hs2 q1
    have ht2 : (row.drop lits).take (many - lits) = row.drop lits := List.take_of_length_le (by simp; omega)
    rw [ht2] at hs2
    have HS1 := Lib.hid hs1
    have HS2 := Lib.hid hs2
    have HB7 := Lib.hid hB7
    have HAP : Hid (g < (w6.setRow w.heap.size #[.slice B nb cb, .slice X nx cx, .int .i64 a7, .slice A n c, .int .i64 most, .int .i64 0]).heap.size ∧ (Value.slice A n c).ownBlock ≠ some g) := by
     refine ⟨by simpa [World.setRow] using hg6.2, fun e2 => ?_⟩
     have := HOWN.out _ e2
     omega
    have hidx : (256 : Int) < (many : Int) := by omega
    obtain ⟨y, hy⟩ : ∃ y, y = gi row 256 := ⟨_, rfl⟩
    rw [← hy] at q1 HD4
    clear hy g1 g2 hrl hsm ho1 ha1 hown6 hb1 hown7 hrow hs1 hs2 ht2 hB7 hg6 HBX HLN HD3
    generalize w6.setRow w.heap.size #[.slice B nb cb, .slice X nx cx, .int .i64 a7, .slice A n c, .int .i64 most, .int .i64 0] = W7 at *
    by_cases hy0 : y = 0
    ·subst hy0
     have HR : Hid (dynF l M ⟨a0, o0⟩ = .error 21) := by unfold Hid; rw [HD4.out, if_pos rfl]; rfl
     have hE := HB7.out.err 21
     have t2 := hE.ld
     have t3 := hE.stq
     have HE := Lib.hid hE
     clear hE
     go_wp2_with (first
      | (with_reducible refine wpList_ld t2 (by with_unfolding_all rfl) ?_)
      | (with_reducible refine wpList_st t1 (by with_unfolding_all rfl) (by with_unfolding_all rfl) ?_)
      | (with_reducible refine wpList_st t3 (by with_unfolding_all rfl) (by with_unfolding_all rfl) ?_))
     obtain ⟨z0, z1, z2, z3, z4, z5⟩ := HE.out.q6 (.slice B nb cb) (.slice X nx cx) (.int .i64 a7) (.slice A n c) (.int .i64 most) (.int .i64 21)
     refine bodyPost_ret (v := .agg #[.slice B nb cb, .slice X nx cx, .int .i64 a7, .slice A n c, .int .i64 most, .int .i64 21]) (by simp [results, Tryz.results46, go_sem, z0, z1, z2, z3, z4, z5]) rfl ?_
     exact .inl ⟨21, _, _, _, _, _, HR.out, rfl, HE.out.ends _⟩
    have hyn : (y == 0) = false := by rw [beq_eq_false_iff_ne]; exact hy0
    have HR0 : Hid (dynF l M ⟨a0, o0⟩ = blockF l M (row.take lits) (row.drop lits) ⟨a7, o7⟩) := by unfold Hid; rw [HD4.out, if_neg hy0]; rfl
    have HBK := Lib.hid (rblock_c (ck := rc) (cd := rc - lits) (most := most) (HB7.out.st.drewN 1) HM.out (LA := some ⟨g, 0, none⟩) (DA := some ⟨g, lits, none⟩) (k := lits) (kd := many - lits) (ls := row.take lits) (ds := row.drop lits) ⟨HS1.out.drewN 1, fun b o e => by injection e with e; injection e with e _ _; subst e; exact HAP.out⟩ ⟨HS2.out.drewN 1, fun b o e => by injection e with e; injection e with e _ _; subst e; exact HAP.out⟩)
    unfold sV at HBK
    dsimp only at HBK
    have hcl2 : (lits : Int) ≤ (rc : Int) := by omega
    have hlm : (lits : Int) ≤ (many : Int) := by omega
    have hcne : ¬ rc = lits := by have := HMANY.out; have := hl257.out; omega
    have hmc : ¬ (rc : Int) < (lits : Int) := by omega
    clear hy0
    go_wp2_with (first
     | (with_reducible refine wpList_st t1 (by with_unfolding_all rfl) (by with_unfolding_all rfl) ?_))
    go_still_tail 7, (by kernel_rfl)
    go_wp2_with fail
    refine HBK.out.mono ?_
    clear t1 c0 c1 c2 c3 c4 c5 f0 f1 f2 f3 f4 f5
    rintro e w8 (⟨z, av8, A8, n8, c8, b8, g1, rfl, hO8⟩ | ⟨A8, n8, c8, ⟨a8, o8⟩, g1, rfl, hU8, hO8⟩)
    ·have HR : Hid (dynF l M ⟨a0, o0⟩ = .error z) := by unfold Hid; rw [HR0.out, g1]
     have k2 := hO8.blk (w := W7.drewN 1) HB7.out.k2 HB7.out.np.2
     have t3 := store_sV k2 rfl B nb cb X nx cx av8 A8 n8 c8 most z
     obtain ⟨⟨z0, z1, z2, z3, z4, z5⟩, _⟩ := (k2.setRow #[.slice B nb cb, .slice X nx cx, .int .i64 av8, .slice A8 n8 c8, .int .i64 most, .int .i64 z]).six
     have HO := Lib.hid (((HB7.out.out.drewN 1).trans hO8).setRow (g := w.heap.size + 1) (by omega) #[.slice B nb cb, .slice X nx cx, .int .i64 av8, .slice A8 n8 c8, .int .i64 most, .int .i64 z])
     clear g1 hO8 k2
     go_wp2_with (first
      | (with_reducible refine wpList_st t3 (by with_unfolding_all rfl) (by with_unfolding_all rfl) ?_))
     refine bodyPost_ret (v := .agg #[.slice B nb cb, .slice X nx cx, .int .i64 av8, .slice A8 n8 c8, .int .i64 most, .int .i64 z]) (by simp [results, Tryz.results46, go_sem, z0, z1, z2, z3, z4, z5]) rfl ?_
     exact .inl ⟨z, _, _, _, _, _, HR.out, rfl, HO.out⟩
    ·have HR : Hid (dynF l M ⟨a0, o0⟩ = .ok ⟨a8, o8⟩) := by unfold Hid; rw [HR0.out, g1]
     dsimp only
     have k2 := hO8.blk (w := W7.drewN 1) HB7.out.k2 HB7.out.np.2
     have t3 := store_sV k2 rfl B nb cb X nx cx a8 A8 n8 c8 most 0
     obtain ⟨⟨z0, z1, z2, z3, z4, z5⟩, _⟩ := (k2.setRow #[.slice B nb cb, .slice X nx cx, .int .i64 a8, .slice A8 n8 c8, .int .i64 most, .int .i64 0]).six
     have HO := Lib.hid (((HB7.out.out.drewN 1).trans hO8).setRow (g := w.heap.size + 1) (by omega) #[.slice B nb cb, .slice X nx cx, .int .i64 a8, .slice A8 n8 c8, .int .i64 most, .int .i64 0])
     have HS := Lib.hid (hU8.setRow (g := w.heap.size + 1) (by have := HB7.out.hH; omega) (hO8.two (w := W7.drewN 1) HB7.out.np.2 HB7.out.k2.lt) #[.slice B nb cb, .slice X nx cx, .int .i64 a8, .slice A8 n8 c8, .int .i64 most, .int .i64 0])
     clear g1 hO8 hU8 k2
     go_wp2_with (first
      | (with_reducible refine wpList_st t3 (by with_unfolding_all rfl) (by with_unfolding_all rfl) ?_))
     refine bodyPost_ret (v := .agg #[.slice B nb cb, .slice X nx cx, .int .i64 a8, .slice A8 n8 c8, .int .i64 most, .int .i64 0]) (by simp [results, Tryz.results46, go_sem, z0, z1, z2, z3, z4, z5]) rfl ?_
     exact .inr ⟨A8, n8, c8, ⟨a8, o8⟩, HR.out, rfl, HS.out, HO.out⟩
end
end Go.Proofs.YtldgdofefcehnaaGreatDoor
