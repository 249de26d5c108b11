/-
  THE CONTRACTS OF the unpacker's small methods: number, bytes, symbol, put, meant, again. An error is a panic with its number. No conditions.
  THE CONTRACTS OF the unpacker's meant and again. No conditions.
  THE CONTRACT OF the unpacker's coded. No conditions.
-/
import Derived.Test.YtldgdofefcehnaaGreatDoorInf
import Derived.WalkLawsBesides
import Derived.Deep.LoopGhost
namespace Go.Proofs.YtldgdofefcehnaaGreatDoor
section
open Go.RowKit
set_option maxRecDepth 100000
set_option linter.unusedVariables false
structure UOut (p r : Nat) (a b : Option Nat) (w w' : World) : Prop where
 os : w'.os = w.os
 tape : w'.tape = w.tape
 output : w'.output = w.output
 size : w.heap.size ≤ w'.heap.size
 block : ∀ k, k < w.heap.size → k ≠ p → k ≠ r → a ≠ some k → w'.heap[k]? = w.heap[k]?
 nw : b = a ∨ ∀ g, b = some g → w.heap.size ≤ g
namespace UOut
variable {p r : Nat} {a b c : Option Nat} {w w' w'' : World}
theorem refl (p r : Nat) (a : Option Nat) (w : World) : UOut p r a a w w := ⟨rfl, rfl, rfl, Nat.le_refl _, fun _ _ _ _ _ => rfl, .inl rfl⟩
theorem trans (h : UOut p r a b w w') (k : UOut p r b c w' w'') : UOut p r a c w w'' :=
 ⟨k.os.trans h.os, k.tape.trans h.tape, k.output.trans h.output, Nat.le_trans h.size k.size, fun i hi hp hr ha => (k.block i (Nat.lt_of_lt_of_le hi h.size) hp hr (fun e => by
   rcases h.nw with h1 | h1
   ·rw [h1] at e; exact ha e
   ·have := h1 i e; omega)).trans (h.block i hi hp hr ha), by
  rcases k.nw with h1 | h1
  ·rw [h1]; exact h.nw
  ·exact .inr fun g hg => Nat.le_trans h.size (h1 g hg)⟩
theorem drewN (h : UOut p r a b w w') (q : Nat) : UOut p r a b w (w'.drewN q) := ⟨h.os, h.tape, h.output, h.size, h.block, h.nw⟩
theorem setP (h : UOut p r a b w w') (i : Nat) (v : Value) : UOut p r a b w (w'.setCell ⟨p, i, none⟩ v) :=
 ⟨h.os, h.tape, h.output, by simpa [World.setCell] using h.size, fun k hk hp hr ha => (Below.heap_setCell _ _ _ _ hp).trans (h.block k hk hp hr ha), h.nw⟩
theorem ofOut (h : Out r (r + 1) w w') : UOut p r a a w w' := ⟨h.os, h.tape, h.output, h.size, fun k hk _ hr _ => h.block k hk (by omega), .inl rfl⟩
theorem ofBelow (h : Below w.heap.size w w') : UOut p r a a w w' := ⟨h.os, h.tape, h.output, h.size, fun k hk _ _ _ => h.block k hk, .inl rfl⟩
theorem ofGrown (h : w.grownBy w' a) (hb : b = a ∨ ∀ g, b = some g → w.heap.size ≤ g) : UOut p r a b w w' := ⟨h.os, h.tape, h.output, h.size, fun k hk _ _ ha => h.block k hk (fun e => ha e.symm), hb⟩
theorem below {B : Nat} (h : UOut p r a b w w') (hp : B ≤ p) (hr : B ≤ r) (hs : B ≤ w.heap.size) (ha : ∀ g, a = some g → B ≤ g) : Below B w w' :=
 ⟨h.os, h.tape, h.output, h.size, fun k hk => h.block k (by omega) (by omega) (by omega) (fun e => by have := ha k e; omega)⟩
theorem blk {g : Nat} {t : TypeId} {C : Array Value} (h : UOut p r a b w w') (hg : Blk w g t C) (h1 : g ≠ p) (h2 : g ≠ r) (h3 : a ≠ some g) : Blk w' g t C := by
 have hl := hg.lt
 unfold Blk at hg ⊢
 rw [h.block g hl h1 h2 h3]
 exact hg
end UOut
theorem Tabs.uout {w w' : World} {p r : Nat} {a b : Option Nat} (h : Tabs w) (hp : 1 < p) (hr : 1 < r) (ha : ∀ g, a = some g → 1 < g) (ho : UOut p r a b w w') : Tabs w' := by
 have hs := h.size
 have hs2 := ho.size
 refine ⟨by omega, fun i hi => ?_, fun i hi => ?_⟩
 ·rw [World.cell?_of_block (a := ⟨0, i, none⟩) (ho.block 0 (by omega) (by omega) (by omega) (fun e => by have := ha 0 e; omega))]
  exact h.len i hi
 ·rw [World.cell?_of_block (a := ⟨1, i, none⟩) (ho.block 1 hs (by omega) (by omega) (fun e => by have := ha 1 e; omega))]
  exact h.dist i hi
structure UnP (w : World) (H p r : Nat) (RA : Option Addr) (len rc : Nat) (l : List F) (A : Option Addr) (n c : Nat) (u : Un) (m : Nat) (x : Value) : Prop where
 blk : Blk w p 92 #[.pointer (some ⟨r, 0, none⟩), .slice A n c, .int .i64 m, x]
 rd : RdB w r RA len rc l u.at_
 own : w.ownsRow H 5 1 (.slice A n c) n (cs u.out)
 ne : p ≠ r
 lo : p < H ∧ r < H
 lor : ∀ b o, RA = some ⟨b, o, none⟩ → b < H ∧ b ≠ p
 few : n ≤ m ∧ m ≤ 1000000
 here : H ≤ w.heap.size
 tabs : Tabs w
 low : 1 < p ∧ 1 < r ∧ 1 < H
namespace UnP
variable {w w' : World} {H p r : Nat} {RA : Option Addr} {len rc : Nat} {l : List F} {A : Option Addr} {n c : Nat} {u u' : Un} {m : Nat} {x : Value}
theorem len_ (h : UnP w H p r RA len rc l A n c u m x) : l.length = len := h.rd.row.row.len
theorem out_ (h : UnP w H p r RA len rc l A n c u m x) : u.out.length = n := own_len h.own
theorem drewN (h : UnP w H p r RA len rc l A n c u m x) (q : Nat) : UnP (w.drewN q) H p r RA len rc l A n c u m x := ⟨h.blk, h.rd.drewN q, h.own, h.ne, h.lo, h.lor, h.few, h.here, h.tabs.drewN q, h.low⟩
theorem below (h : UnP w H p r RA len rc l A n c u m x) (hb : Below w.heap.size w w') : UnP w' H p r RA len rc l A n c u m x :=
 ⟨h.blk.below h.blk.lt hb, h.rd.below hb, own_below h.own hb, h.ne, h.lo, h.lor, h.few, Nat.le_trans h.here hb.size, h.tabs.below hb, h.low⟩
theorem read (h : UnP w H p r RA len rc l A n c u m x) {k : Nat} (hr : RdB w' r RA len rc l k) (ho : Out r (r + 1) w w') : UnP w' H p r RA len rc l A n c ⟨k, u.out⟩ m x := by
 refine ⟨?_, hr, ?_, h.ne, h.lo, h.lor, h.few, Nat.le_trans h.here ho.size, h.tabs.uout h.low.1 h.low.2.1 (fun g hg => by have := (h.own.lt g hg).1; have := h.low; omega) (UOut.ofOut (p := p) (a := (Value.slice A n c).ownBlock) ho), h.low⟩
 ·have h1 := h.blk
  have h2 := h1.lt
  have h3 := h.ne
  unfold Blk at h1 ⊢
  rw [ho.block p h2 (by omega)]
  exact h1
 ·have h4 := h.own
  refine ⟨h4.1, ?_⟩
  have h5 := h.lo
  rcases h4.2 with hn | ⟨g, cap, cur, hv, hbg, hg, rest⟩
  ·exact .inl hn
  ·exact .inr ⟨g, cap, cur, hv, hbg, (ho.block g (Array.getElem?_eq_some_iff.1 hg).1 (by omega)).trans hg, rest⟩
end UnP
section
variable {w : World} {H p r : Nat} {RA : Option Addr} {len rc : Nat} {l : List F} {A : Option Addr} {n c : Nat} {u : Un} {m : Nat} {x : Value}
theorem held_of {s : Nat} (hs : s ≤ 32) : heldN (s : Int) 32 = s := by unfold heldN; omega
theorem num_ok (h : UnP w H p r RA len rc l A n c u m x) (s : Nat) (hs : s ≤ 32) {v : Nat} {u' : Un} (hf : numF l s u = .ok (v, u')) :
  Calls Tryz.prog 100 #[.pointer (some ⟨p, 0, none⟩), .int .i64 s] w fun e w' => e = .returned (.int .i64 v) ∧ UnP w' H p r RA len rc l A n c u' m x ∧ UOut p r (Value.slice A n c).ownBlock (Value.slice A n c).ownBlock w w' := by
 obtain ⟨h1, h2⟩ := numF_inv hf
 injection h2 with h2 h3
 subst h2 h3
 have hl := h.len_
 have hg := GetB_ok h.rd (s : Int) (by rw [held_of hs]; omega)
 rw [held_of hs] at hg
 have hlt := numB_lt l u.at_ s
 have hp : 2 ^ s ≤ 2 ^ 32 := Nat.pow_le_pow_right (by decide) hs
 have e32 : (2 : Nat) ^ 32 = 4294967296 := rfl
 generalize numB l u.at_ s = v at *
 have hv : (v : Int) < 4294967296 := by omega
 have c0 := h.blk.cell 0
 simp at c0
 have HG := Lib.hid hg
 have HH := Lib.hid h
 clear hg h hf h1 hl hlt hp e32
 go_enter Tryz.func100, Tryz.ntmps100
 go_wp2_with (go_at_call 125; refine HG.out.mono ?_; rintro e w' ⟨rfl, hR, hO⟩)
 go_ret
 exact ⟨rfl, HH.out.read hR hO, UOut.ofOut hO⟩
theorem num_no (h : UnP w H p r RA len rc l A n c u m x) (s : Nat) (hs : s ≤ 32) {k : Nat} (hf : numF l s u = .error k) :
  Calls Tryz.prog 100 #[.pointer (some ⟨p, 0, none⟩), .int .i64 s] w fun e w' => e = .panicked [{ v := .iface 33 (.int .i64 k), recovered := false }] ∧ UOut p r (Value.slice A n c).ownBlock (Value.slice A n c).ownBlock w w' := by
 have hl := h.len_
 have h1 : ¬ u.at_ + s ≤ 8 * l.length := fun e => by unfold numF at hf; rw [if_pos e] at hf; cases hf
 unfold numF at hf
 rw [if_neg h1] at hf
 injection hf with hf
 subst hf
 have hg := GetB_no h.rd (s : Int) (by rw [held_of hs]; omega)
 have c0 := h.blk.cell 0
 simp at c0
 have HG := Lib.hid hg
 clear hg h hl h1
 go_enter Tryz.func100, Tryz.ntmps100
 go_wp2_with (go_at_call 125; refine HG.out.mono ?_; rintro e w' ⟨rfl, hR, hO⟩)
 exact ⟨rfl, rfl, UOut.ofOut hO⟩
theorem put_no (h : UnP w H p r RA len rc l A n c u m x) (v : F) {k : Nat} (hf : putF m v u = .error k) :
  Calls Tryz.prog 146 #[.pointer (some ⟨p, 0, none⟩), .int .u8 v.n] w fun e w' => e = .panicked [{ v := .iface 33 (.int .i64 k), recovered := false }] ∧ UOut p r (Value.slice A n c).ownBlock (Value.slice A n c).ownBlock w w' := by
 have h1 : ¬ u.out.length < m := fun e => by unfold putF at hf; rw [if_pos e] at hf; cases hf
 unfold putF at hf
 rw [if_neg h1] at hf
 injection hf with hf
 subst hf
 have hl := h.out_
 have hfew := h.few
 have heq : ((n : Int) == (m : Int)) = true := by rw [beq_iff_eq]; omega
 have c1 := h.blk.cell 1
 have c2 := h.blk.cell 2
 simp at c1 c2
 clear h hl h1
 go_enter Tryz.func146, Tryz.ntmps146
 go_wp2
 go_quiet (fail)
 go_wp2
 exact ⟨rfl, rfl, (UOut.refl _ _ _ _).drewN _⟩
set_option maxHeartbeats 1000000 in
theorem put_ok (h : UnP w H p r RA len rc l A n c u m x) (v : F) {u' : Un} (hf : putF m v u = .ok u') :
  Calls Tryz.prog 146 #[.pointer (some ⟨p, 0, none⟩), .int .u8 v.n] w fun e w' => e = .returned (.tuple #[]) ∧ ∃ A' n' c', UnP w' H p r RA len rc l A' n' c' u' m x ∧ UOut p r (Value.slice A n c).ownBlock (Value.slice A' n' c').ownBlock w w' := by
 obtain ⟨i0, hi, hz0, hz1, hz2⟩ := info_parts info_u8
 obtain ⟨h1, rfl⟩ := putF_inv hf
 have hl := h.out_
 have hfew := h.few
 have heq : ((n : Int) == (m : Int)) = false := by rw [beq_eq_false_iff_ne]; omega
 have c1 := h.blk.cell 1
 have c2 := h.blk.cell 2
 have f1 := h.blk.frozen 1
 simp at c1 c2
 have HN : Hid (n + 1 ≤ m) := by unfold Hid; omega
 have HW := Lib.hid (h.drewN 0)
 have H0 := Lib.hid h
 clear h hl h1 hf
 go_enter Tryz.func146, Tryz.ntmps146
 go_wp2
 go_quiet (fail)
 have hW := H0.out.drewN nq
 have hO0 : UOut p r (Value.slice A n c).ownBlock (Value.slice A n c).ownBlock w (w.drewN nq) := (UOut.refl _ _ _ _).drewN nq
 clear c1 c2 f1
 generalize w.drewN nq = W at *
 have c1 := hW.blk.cell 1
 have f1 := hW.blk.frozen 1
 simp at c1
 have HW := Lib.hid hW
 have hpW := hW.blk.lt
 have hHW := hW.here
 clear hW
 go_wp2_with (at_builtin; refine wpList_append_lies _ rfl (.tmp 19) (.tmp 21) 22 rfl H 5 i0 (.int .u8 0) 1 1 Tryz.underlying22 hi hz0 hz1 hz2 rfl (by decide) (.slice A n c) n (cs u.out) rfl (HW.out.own.alloc _) ⟨W.heap.size, 0, none⟩ 1 1 [.int .u8 v.n] rfl rfl (one_cell W _ _) (by intro u hu; simp at hu; subst hu; rfl) (by omega) (by unfold maxLen; omega) (by omega) (by simp; omega) (W.heap.size + 1) (by simp) ?_; intro g cap' w1 hown1 hg1 hat1 hlt1; have hblk1 := Blk.kept (HW.out.blk.below HW.out.blk.lt ((Below.refl _ W).alloc (Nat.le_refl _) (.cells #[.int .u8 v.n] 5))) hg1 ⟨by simp; omega, fun e => by have := (HW.out.own.lt p e).1; have := HW.out.lo; omega⟩; have d1 := hblk1.cell 1; have g1 := hblk1.frozen 1; simp at d1)
 go_end0
 have hlo := HW.out.lo
 have hOw : UOut p r (Value.slice A n c).ownBlock (some g) W w1 := by
  refine ⟨hg1.os, hg1.tape, hg1.output, ?_, fun k hk hp hr ha => ?_, ?_⟩
  ·have := hg1.size; simp at this; omega
  ·rw [hg1.block k (by simp; omega) (fun e => ha e.symm)]
   exact Below.heap_alloc _ _ _ hk
  ·rcases hat1 with h1 | h1
   ·exact .inl h1.symm
   ·exact .inr fun y hy => by cases hy; omega
 refine ⟨rfl, some ⟨g, 0, none⟩, n + 1, cap', ⟨hblk1.set_ 1 _, ?_, own_set_other ?_ (by show p < H; omega) _, HW.out.ne, hlo, HW.out.lor, ⟨HN.out, HW.out.few.2⟩, ?_, HW.out.tabs.uout HW.out.low.1 HW.out.low.2.1 (fun g hg => by have := (HW.out.own.lt g hg).1; have := HW.out.low; omega) (hOw.setP 1 _), HW.out.low⟩, (hO0.trans hOw).setP 1 _⟩
 ·have hrd := HW.out.rd
  have hgr : ∀ k, k < W.heap.size → k < H → w1.heap[k]? = W.heap[k]? := fun k hk hH => by
   rw [hg1.block k (by simp; omega) (fun e => by have := (HW.out.own.lt k e.symm).1; omega)]
   exact Below.heap_alloc _ _ _ hk
  refine ⟨?_, ⟨⟨hrd.row.row.1, hrd.row.row.2.1, fun hn => ?_⟩, hrd.row.le, hrd.row.max⟩, hrd.le, hrd.ne, hrd.few⟩
  ·have hb := hrd.blk
   have hb2 := hb.lt
   have h5 := HW.out.ne
   unfold Blk at hb ⊢
   rw [Go.Deep.blk_setCell_other _ _ _ _ (show r ≠ p by omega), hgr r hb2 hlo.2]
   exact hb
  ·obtain ⟨b, o, e, hbl, hc⟩ := hrd.row.row.2.2 hn
   have h6 := HW.out.lor b o e
   refine ⟨b, o, e, by have := hg1.size; simp [World.setCell] at this ⊢; omega, fun i hi => ?_⟩
   rw [← hc i hi]
   refine World.cell?_of_block (a := ⟨b, o + i, none⟩) ?_
   show (w1.setCell _ _).heap[b]? = _
   rw [Go.Deep.blk_setCell_other _ _ _ _ (show b ≠ p by omega), hgr b hbl h6.1]
 ·have := hown1
  rw [show cs (u.out ++ [v]) = cs u.out ++ [.int .u8 v.n] by rw [cs_append]; rfl]
  exact this
 ·have := hOw.size
  simp [World.setCell]
  omega
theorem bytes_no (h : UnP w H p r RA len rc l A n c u m x) (s : Nat) (hs : l.length < (u.at_ + 7) / 8 + s) :
  Calls Tryz.prog 144 #[.pointer (some ⟨p, 0, none⟩), .int .i64 s] w fun e w' => e = .panicked [{ v := .iface 33 (.int .i64 20), recovered := false }] ∧ UOut p r (Value.slice A n c).ownBlock (Value.slice A n c).ownBlock w w' := by
 have hg := BytesR_no h.rd (s : Int) s (by omega) (by rw [← h.len_]; exact hs)
 have c0 := h.blk.cell 0
 simp at c0
 have HG := Lib.hid hg
 clear hg h hs
 go_enter Tryz.func144, Tryz.ntmps144
 go_wp2_with (go_at_call 172; refine HG.out.mono ?_; rintro e w' ⟨rfl, hR, hO⟩)
 exact ⟨rfl, rfl, UOut.ofOut hO⟩
theorem bytes_ok (h : UnP w H p r RA len rc l A n c u m x) (s : Nat) (hs : (u.at_ + 7) / 8 + s ≤ l.length) :
  Calls Tryz.prog 144 #[.pointer (some ⟨p, 0, none⟩), .int .i64 s] w fun e w' => ∃ A' c', e = .returned (.slice A' s c') ∧ w'.ownsRow w.heap.size 5 1 (.slice A' s c') s (cs ((l.drop ((u.at_ + 7) / 8)).take s)) ∧ UnP w' H p r RA len rc l A n c ⟨8 * ((u.at_ + 7) / 8 + s), u.out⟩ m x ∧ UOut p r (Value.slice A n c).ownBlock (Value.slice A n c).ownBlock w w' := by
 have hg := BytesR_ok h.rd (s : Int) s (by omega) (by rw [← h.len_]; exact hs)
 rw [show upB u.at_ + 8 * s = 8 * ((u.at_ + 7) / 8 + s) by unfold upB; omega] at hg
 have c0 := h.blk.cell 0
 simp at c0
 have HG := Lib.hid hg
 have HH := Lib.hid h
 clear hg h hs
 go_enter Tryz.func144, Tryz.ntmps144
 go_wp2_with (go_at_call 172; refine HG.out.mono ?_; rintro e w' ⟨A', c', rfl, hown, hR, hO⟩)
 go_ret
 exact ⟨A', c', rfl, hown, HH.out.read hR hO, UOut.ofOut hO⟩
structure Tbl (w : World) (p r : Nat) (a : Option Nat) (q : Nat) (l : List Int) : Prop where
 ex : ∃ n gc LA lc S, TabIn w q n l gc LA lc S ∧ FarT p q n gc LA S ∧ FarT r q n gc LA S ∧ ∀ g, a = some g → FarT g q n gc LA S
theorem TabIn.uout {w w' : World} {p r : Nat} {a b : Option Nat} {q n : Nat} {l : List Int} {gc : Nat} {LA : Option Addr} {lc : Nat} {S : Nat → Value} (h : TabIn w q n l gc LA lc S) (hp : FarT p q n gc LA S) (hr : FarT r q n gc LA S) (ha : ∀ g, a = some g → FarT g q n gc LA S) (ho : UOut p r a b w w') : TabIn w' q n l gc LA lc S := by
 have hs := ho.size
 have key : ∀ k, k < w.heap.size → (∀ y, FarT y q n gc LA S → k ≠ y) → w'.heap[k]? = w.heap[k]? := fun k hk hy => ho.block k hk (hy p hp) (hy r hr) (fun e => hy k (ha k e) rfl)
 refine ⟨?_, fun i hi => ?_, ?_, fun j hj => ?_, h.ok, fun j hj g hg => by have := h.held j hj g hg; omega⟩
 ·have h1 := h.blk
  have h2 := h1.lt
  unfold Blk at h1 ⊢
  rw [key q h2 fun y hy => hy.tab]
  exact h1
 ·obtain ⟨h1, h2⟩ := h.codes i hi
  refine ⟨by omega, ?_⟩
  rw [World.cell?_of_block (a := ⟨gc, i, none⟩) (key gc h1 fun y hy => hy.cod (by omega))]
  exact h2
 ·refine ⟨h.lens.len, h.lens.max, fun hn => ?_, h.lens.wf⟩
  obtain ⟨b, off, e, hl, hc⟩ := h.lens.cells hn
  refine ⟨b, off, e, by omega, fun i hi => ?_⟩
  rw [World.cell?_of_block (a := ⟨b, off + i, none⟩) (key b hl fun y hy => hy.len hn b off e)]
  exact hc i hi
 ·obtain ⟨O, c, h1, h2⟩ := h.rows j hj
  refine ⟨O, c, h1, fun i hi hij => ?_⟩
  obtain ⟨g, h3, h4, h5⟩ := h2 i hi hij
  refine ⟨g, h3, by omega, ?_⟩
  rw [World.cell?_of_block (a := ⟨g, cL l j i, none⟩) (key g h4 fun y hy e => hy.row j hj (by rw [h1, own_block_at h3, e]))]
  exact h5
theorem Tbl.step {w w' : World} {p r : Nat} {a b : Option Nat} {q : Nat} {l : List Int} (h : Tbl w p r a q l) (ho : UOut p r a b w w') : Tbl w' p r b q l := by
 obtain ⟨n, gc, LA, lc, S, h1, h2, h3, h4⟩ := h.ex
 refine ⟨n, gc, LA, lc, S, h1.uout h2 h3 h4 ho, h2, h3, fun g hg => ?_⟩
 rcases ho.nw with e | e
 ·exact h4 g (by rw [← e]; exact hg)
 ·exact h1.far (e g hg)
theorem sym_c {q : Nat} {cl : List Int} (h : UnP w H p r RA len rc l A n c u m x) (ht : Tbl w p r (Value.slice A n c).ownBlock q cl) :
  Calls Tryz.prog 145 #[.pointer (some ⟨p, 0, none⟩), .pointer (some ⟨q, 0, none⟩)] w fun e w' =>
   (∃ k, symF l cl u = .error k ∧ e = .panicked [{ v := .iface 33 (.int .i64 k), recovered := false }] ∧ UOut p r (Value.slice A n c).ownBlock (Value.slice A n c).ownBlock w w') ∨
   (∃ v u', symF l cl u = .ok (v, u') ∧ v < cl.length ∧ e = .returned (.int .i64 (v : Nat)) ∧ UnP w' H p r RA len rc l A n c u' m x ∧ UOut p r (Value.slice A n c).ownBlock (Value.slice A n c).ownBlock w w') := by
 obtain ⟨N, gc, LA, lc, S, h1, h2, h3, h4⟩ := ht.ex
 have hg := ReadT_c h1 h.rd h3
 have hr := h1.ok.right
 have hk := h1.ok.fit
 rw [← h1.ok.len] at hk
 have hle := h.rd.le
 have hl := h.len_
 have HE : Hid (∀ s k e, RdS cl (rb l) (8 * len) u.at_ s k e → rdF cl (rb l) (8 * l.length) u.at_ = (s, k, e)) := fun s k e he => by rw [hl]; exact rdF_eq hr hk hle he
 have c0 := h.blk.cell 0
 simp at c0
 have HG := Lib.hid hg
 have HH := Lib.hid h
 clear hg h ht h1 h2 h3 h4 hr hk hle hl
 go_enter Tryz.func145, Tryz.ntmps145
 go_wp2_with fail
 refine HG.out.mono ?_
 rintro e w' ⟨s, k, er, rfl, hrd, hR, hO⟩
 have hq := HE.out s k er hrd
 by_cases h0 : er = 0
 ·subst h0
  have hs : s < cl.length := by
   rcases hrd.2 with ⟨_, _, _, h5, _⟩ | ⟨h5, _⟩ | ⟨h5, _⟩
   ·exact h5
   ·cases h5
   ·cases h5
  have HS := Lib.hid hs
  have HF : Hid (symF l cl u = .ok (s, ⟨u.at_ + k, u.out⟩)) := by unfold Hid symF; rw [hq]; rfl
  clear hrd hq hs
  go_wp2
  go_ret
  exact .inr ⟨s, _, HF.out, HS.out, rfl, HH.out.read hR hO, UOut.ofOut hO⟩
 ·have HF : Hid (symF l cl u = .error er) := by unfold Hid symF; rw [hq]; exact if_neg h0
  have hne : ((er : Int) != 0) = true := by rw [bne_iff_ne]; omega
  clear hrd hq h0
  go_wp2
  exact ⟨rfl, .inl ⟨er, HF.out, rfl, UOut.ofOut hO⟩⟩
end
end
section
open Go.RowKit
set_option maxRecDepth 100000
set_option linter.unusedVariables false
def Went (T : TypeId) (w : World) (p r : Nat) (a : Option Nat) (R : Except Nat Un) (H : Nat) (RA : Option Addr) (len rc : Nat) (l : List F) (m : Nat) (x : Value) (v : Value) (e : Ending) (w' : World) : Prop :=
 (∃ k, R = .error k ∧ e = .panicked [{ v := .iface T (.int .i64 k), recovered := false }] ∧ ∃ b, UOut p r a b w w') ∨
 (∃ u' A' n' c', R = .ok u' ∧ e = .returned v ∧ UnP w' H p r RA len rc l A' n' c' u' m x ∧ UOut p r a (Value.slice A' n' c').ownBlock w w')
section
variable {w : World} {H p r : Nat} {RA : Option Addr} {len rc : Nat} {l : List F} {A : Option Addr} {n c : Nat} {u : Un} {m : Nat} {x : Value}
theorem meant_c (h : UnP w H p r RA len rc l A n c u m x) (b s : Nat) (ok : Bool) (hs : s ≤ 32) (hb : b ≤ 40000) :
  Calls Tryz.prog 147 #[.pointer (some ⟨p, 0, none⟩), .int .i64 b, .int .i64 s, .bool ok] w fun e w' =>
   (∃ k, meantF l b s ok u = .error k ∧ e = .panicked [{ v := .iface 33 (.int .i64 k), recovered := false }] ∧ UOut p r (Value.slice A n c).ownBlock (Value.slice A n c).ownBlock w w') ∨
   (∃ v u', meantF l b s ok u = .ok (b + v, u') ∧ v < 2 ^ s ∧ e = .returned (.int .i64 ((b + v : Nat) : Int)) ∧ UnP w' H p r RA len rc l A n c u' m x ∧ UOut p r (Value.slice A n c).ownBlock (Value.slice A n c).ownBlock w w') := by
 cases ok with
 | false =>
  have HF : Hid (meantF l b s false u = .error 34) := rfl
  clear h
  go_enter Tryz.func147, Tryz.ntmps147
  go_wp2
  exact ⟨rfl, .inl ⟨34, HF.out, rfl, UOut.refl _ _ _ _⟩⟩
 | true =>
  cases hf : numF l s u with
  | error k =>
   have HF : Hid (meantF l b s true u = .error k) := by unfold Hid meantF; rw [if_pos rfl, hf]; rfl
   have HN := Lib.hid (num_no h s hs hf)
   clear h hf
   go_enter Tryz.func147, Tryz.ntmps147
   go_wp2_with (go_at_call 100; refine HN.out.mono ?_; rintro e w' ⟨rfl, hO⟩)
   exact ⟨rfl, .inl ⟨k, HF.out, rfl, hO⟩⟩
  | ok y =>
   obtain ⟨v, u'⟩ := y
   have HF : Hid (meantF l b s true u = .ok (b + v, u')) := by unfold Hid meantF; rw [if_pos rfl, hf]; rfl
   have hv : v < 2 ^ s := by
    obtain ⟨_, e⟩ := numF_inv hf
    injection e with e _
    rw [e]
    exact numB_lt _ _ _
   have hp : 2 ^ s ≤ 2 ^ 32 := Nat.pow_le_pow_right (by decide) hs
   have e32 : (2 : Nat) ^ 32 = 4294967296 := rfl
   have hv2 : v < 4294967296 := by omega
   have HV := Lib.hid hv
   have HN := Lib.hid (num_ok h s hs hf)
   have hsum : Hid ((b : Int) + (v : Int) = ((b + v : Nat) : Int)) := by unfold Hid; omega
   clear h hf hv hp e32
   go_enter Tryz.func147, Tryz.ntmps147
   go_wp2_with (go_at_call 100; refine HN.out.mono ?_; rintro e w' ⟨rfl, hU, hO⟩)
   go_ret
   rw [hsum.out]
   exact .inr ⟨v, u', HF.out, HV.out, rfl, hU, hO⟩
theorem put_c (h : UnP w H p r RA len rc l A n c u m x) (v : F) :
  Calls Tryz.prog 146 #[.pointer (some ⟨p, 0, none⟩), .int .u8 v.n] w fun e w' => Went 33 w p r (Value.slice A n c).ownBlock (putF m v u) H RA len rc l m x (.tuple #[]) e w' := by
 cases hf : putF m v u with
 | error k => exact (put_no h v hf).mono fun e w' ⟨h1, h2⟩ => .inl ⟨k, rfl, h1, _, h2⟩
 | ok u' => exact (put_ok h v hf).mono fun e w' ⟨h1, A', n', c', h2, h3⟩ => .inr ⟨u', A', n', c', rfl, h1, h2, h3⟩
set_option maxHeartbeats 1000000 in
theorem again_c (h : UnP w H p r RA len rc l A n c u m x) (k d : Nat) (hk : k ≤ 1000000) (hd : 1 ≤ d) (hd2 : d ≤ 1000000) :
  Calls Tryz.prog 148 #[.pointer (some ⟨p, 0, none⟩), .int .i64 k, .int .i64 d] w fun e w' => Went 33 w p r (Value.slice A n c).ownBlock (againF m k d u) H RA len rc l m x (.tuple #[]) e w' := by
 have hl := h.out_
 have hfew := h.few
 have c1 := h.blk.cell 1
 simp at c1
 by_cases hfar : n < d
 ·have HF : Hid (againF m k d u = .error 35) := by unfold Hid againF; rw [if_pos (by omega)]
  have hi : (n : Int) < (d : Int) := by omega
  clear h hl hfar
  go_enter Tryz.func148, Tryz.ntmps148
  go_wp2
  exact ⟨rfl, .inl ⟨35, HF.out, rfl, _, UOut.refl _ _ _ _⟩⟩
 ·have HF : Hid (againF m k d u = agF m d k u) := by unfold Hid againF; rw [if_neg (by omega)]
  have hi : ¬ (n : Int) < (d : Int) := by omega
  have HH := Lib.hid h
  clear h hl
  go_enter Tryz.func148, Tryz.ntmps148
  go_wp2
  go_loopw [15] (fun i wr => ∃ (j : Nat) (A' : Option Addr) (n' c' : Nat) (uu : Un), j ≤ k ∧ i = .int .i64 j ∧ d ≤ n' ∧ UnP wr H p r RA len rc l A' n' c' uu m x ∧ UOut p r (Value.slice A n c).ownBlock (Value.slice A' n' c').ownBlock w wr ∧ Hid (agF m d (k - j) uu = agF m d k u)) (fun i _ => k - (intOf i).toNat)
  case atStart => exact ⟨0, A, n, c, u, by omega, rfl, by omega, HH.out, UOut.refl _ _ _ _, rfl⟩
  case round =>
   obtain ⟨j, A', n', c', uu, hj, rfl, hdn, hU, hO, hag⟩ := hrel
   by_cases hlt : j < k
   ·have hjk : (j : Int) < (k : Int) := by omega
    have hn' := hU.few
    have ho := hU.out_
    obtain ⟨b1, o1, hA1, _, q1⟩ := (own_in hU.own).row.at_ (k := n' - d) (by omega)
    have c1 := hU.blk.cell 1
    simp at c1
    have hst : Hid (agF m d (k - j) uu = bnd (putF m (gt uu.out (n' - d)) uu) (agF m d (k - (j + 1)))) := by
     unfold Hid
     rw [show k - j = k - (j + 1) + 1 by omega, agF, ho]
    have HU := Lib.hid hU
    have HO := Lib.hid hO
    have hsub : IntKind.i64.wrap ((n' : Int) - (d : Int)) = ((n' - d : Nat) : Int) := (IntWalk.i64_in _ (by omega)).trans (by omega)
    have hin : ((n' - d : Nat) : Int) < (n' : Int) := by omega
    have hin0 : (0 : Int) ≤ ((n' - d : Nat) : Int) := by omega
    obtain ⟨y, hy⟩ : ∃ y, y = gt uu.out (n' - d) := ⟨_, rfl⟩
    rw [← hy] at q1 hst
    obtain ⟨z, hz⟩ : ∃ z, z = n' - d := ⟨_, rfl⟩
    rw [← hz] at q1 hsub hin hin0
    have HA := Lib.hid hA1
    subst hA1
    have HF2 := Lib.hid HF.out
    clear hU hO ho hy hz HF
    go_wp2
    go_still_tail 14, (by kernel_rfl)
    go_wp2_with fail
    refine (put_c (HU.out.drewN 1) y).mono ?_
    rintro e w2 hW
    rcases hW with ⟨k2, h1, rfl, b, h2⟩ | ⟨u2, A2, n2, c2, h1, rfl, h2, h3⟩
    ·have HR : Hid (againF m k d u = .error k2) := by unfold Hid; rw [HF2.out, ← hag.out, hst.out, h1]; rfl
     clear h1
     go_wp2
     exact ⟨rfl, .inl ⟨k2, HR.out, rfl, b, (HO.out.drewN 1).trans h2⟩⟩
    ·have hpi := putF_inv h1
     have ho2 := h2.out_
     have hd3 : d ≤ n2 := by
      have e : u2.out = uu.out ++ [y] := by rw [hpi.2]
      rw [e, List.length_append] at ho2
      have := HU.out.out_
      simp at ho2
      omega
     have HR : Hid (agF m d (k - (j + 1)) u2 = agF m d k u) := by unfold Hid; rw [← hag.out, hst.out, h1]; rfl
     have H3 := Lib.hid ((HO.out.drewN 1).trans h3)
     have H2 := Lib.hid h2
     clear h1 hpi ho2 h2 h3
     go_wp2
     go_roundw
     case rel => exact ⟨j + 1, A2, n2, c2, u2, by omega, by go_num, hd3, H2.out, H3.out, HR⟩
     case measure => simp [intOf]; omega
   ·obtain rfl : j = k := by omega
    have HR : Hid (againF m j d u = .ok uu) := by unfold Hid; rw [HF.out, ← hag.out, Nat.sub_self]; rfl
    go_wp2
    go_end0
    exact .inr ⟨uu, A', n', c', HR.out, rfl, hU, hO⟩
end
end
section
open Go.RowKit
set_option maxRecDepth 100000
set_option linter.unusedVariables false
theorem lxI_le (c : Int) : lxI c ≤ 7 := by
 have : ∀ k, k < 29 → lx k ≤ 7 := by decide +kernel
 unfold lxI
 split
 ·exact this _ (by omega)
 ·omega
theorem dxI_le (c : Int) : dxI c ≤ 13 := by
 have : ∀ k, k < 30 → dx k ≤ 13 := by decide +kernel
 unfold dxI
 split
 ·exact this _ (by omega)
 ·omega
theorem lbI_le (c : Int) : lbI c ≤ 258 := by
 unfold lbI
 split
 ·have := lb_lt (k := (c - 257).toNat) (by omega); omega
 ·omega
theorem dbI_le (c : Int) : dbI c ≤ 24577 := by
 unfold dbI
 split
 ·have := db_lt (k := c.toNat) (by omega); omega
 ·omega
theorem dbI_pos {c : Int} (h : dokI c = true) : 1 ≤ dbI c := by
 have h1 : 0 ≤ c ∧ c ≤ 29 := of_decide_eq_true h
 unfold dbI
 rw [if_pos h1]
 exact db_pos (by omega)
theorem meantF_ok {l : List F} {b s : Nat} {ok : Bool} {u : Un} {x : Nat × Un} (h : meantF l b s ok u = .ok x) : ok = true := by
 cases ok with
 | false => cases h
 | true => rfl
structure Cds (w : World) (p r : Nat) (a : Option Nat) (q : Nat) (ls ds : List Int) : Prop where
 ex : ∃ q1 q2, Blk w q 191 #[.pointer (some ⟨q1, 0, none⟩), .pointer (some ⟨q2, 0, none⟩)] ∧ Tbl w p r a q1 ls ∧ Tbl w p r a q2 ds
 ne : q ≠ p ∧ q ≠ r ∧ a ≠ some q
theorem Cds.step {w w' : World} {p r : Nat} {a b : Option Nat} {q : Nat} {ls ds : List Int} (h : Cds w p r a q ls ds) (ho : UOut p r a b w w') : Cds w' p r b q ls ds := by
 obtain ⟨q1, q2, h1, h2, h3⟩ := h.ex
 refine ⟨⟨q1, q2, ho.blk h1 h.ne.1 h.ne.2.1 h.ne.2.2, h2.step ho, h3.step ho⟩, h.ne.1, h.ne.2.1, fun e => ?_⟩
 rcases ho.nw with e1 | e1
 ·exact h.ne.2.2 (by rw [← e1]; exact e)
 ·have := e1 q e
  have := h1.lt
  omega
theorem Tbl.len {w : World} {p r : Nat} {a : Option Nat} {q : Nat} {l : List Int} (h : Tbl w p r a q l) : l.length ≤ 288 := by
 obtain ⟨n, gc, LA, lc, S, h1, _⟩ := h.ex
 have := h1.ok.len
 have := h1.ok.few
 omega
section
variable {w : World} {H p r : Nat} {RA : Option Addr} {len rc : Nat} {l : List F} {A : Option Addr} {n c : Nat} {u : Un} {m : Nat} {x : Value}
set_option maxHeartbeats 2000000 in
theorem coded_c {q : Nat} {ls ds : List Int} (h : UnP w H p r RA len rc l A n c u m x) (hc : Cds w p r (Value.slice A n c).ownBlock q ls ds) :
  Calls Tryz.prog 102 #[.pointer (some ⟨p, 0, none⟩), .pointer (some ⟨q, 0, none⟩)] w fun e w' => Went 33 w p r (Value.slice A n c).ownBlock (codedF l m ls ds u) H RA len rc l m x (.tuple #[]) e w' := by
 have HH := Lib.hid h
 have HC := Lib.hid hc
 clear h hc
 go_enter Tryz.func102, Tryz.ntmps102
 go_wp2
 go_loopg [4] (8 * l.length - u.at_) (fun gk i wr => ∃ (A' : Option Addr) (n' c' : Nat) (uu : Un), Hid (gk = 8 * l.length - uu.at_) ∧ UnP wr H p r RA len rc l A' n' c' uu m x ∧ Cds wr p r (Value.slice A' n' c').ownBlock q ls ds ∧ UOut p r (Value.slice A n c).ownBlock (Value.slice A' n' c').ownBlock w wr ∧ Hid (codedF l m ls ds uu = codedF l m ls ds u))
 case atStart => exact ⟨A, n, c, u, rfl, HH.out, HC.out, UOut.refl _ _ _ _, rfl⟩
 case round =>
  obtain ⟨A', n', c', uu, hgk, hU, hC, hO, hcd⟩ := hrel
  have hle := hU.rd.le
  have hll := hU.len_
  rw [← hll] at hle
  obtain ⟨q1, q2, hq, t1, t2⟩ := hC.ex
  have c0 := hq.cell 0
  simp at c0
  have hsym := sym_c hU t1
  have hlen := t1.len
  have HS := Lib.hid hsym
  have HO := Lib.hid hO
  have HC2 := Lib.hid hC
  have HLE := Lib.hid hle
  clear hsym hU hC hO hq t1 t2 hle hll
  go_wp2_with fail
  refine HS.out.mono ?_
  rintro e w2 (⟨k, h1, rfl, h2⟩ | ⟨s, u1, h1, hs, rfl, h2, h3⟩)
  ·have HR : Hid (codedF l m ls ds u = .error k) := by
    unfold Hid
    rw [← hcd.out]
    exact loopF_error (by unfold stepF; rw [h1]; rfl)
   clear h1
   go_wp2
   exact ⟨rfl, .inl ⟨k, HR.out, rfl, _, HO.out.trans h2⟩⟩
  ·have hpr := symF_prog h1
   have hC2 := HC2.out.step h3
   have hs288 : s < 288 := by omega
   have HP := Lib.hid hpr
   have H1 := Lib.hid h1
   have HO2 := Lib.hid (HO.out.trans h3)
   clear hpr h1 h3 hs c0 hlen
   by_cases e1 : s < 256
   ·have hput := put_c h2 (ofN s)
    rw [ofN_n s e1] at hput
    have HPUT := Lib.hid hput
    have hi : (s : Int) < 256 := by omega
    have hst : Hid (stepF l m ls ds uu = bnd (putF m (ofN s) u1) fun u2 => .ok (false, u2)) := by
     unfold Hid stepF
     rw [H1.out, bnd_ok, if_neg (by show ¬ s = 256; omega), if_pos e1]
    clear hput e1 h2
    go_wp2_with fail
    refine HPUT.out.mono ?_
    rintro e w3 (⟨k, g1, rfl, b, g2⟩ | ⟨u2, A2, n2, c2, g1, rfl, g2, g3⟩)
    ·have HR : Hid (codedF l m ls ds u = .error k) := by
      unfold Hid
      rw [← hcd.out]
      exact loopF_error (by rw [hst.out, g1]; rfl)
     clear g1
     go_wp2
     exact ⟨rfl, .inl ⟨k, HR.out, rfl, b, HO2.out.trans g2⟩⟩
    ·have hst2 : stepF l m ls ds uu = .ok (false, u2) := by rw [hst.out, g1]; rfl
     have hp2 := stepF_prog HLE.out hst2
     have HR : Hid (codedF l m ls ds u2 = codedF l m ls ds u) := by
      unfold Hid
      rw [← hcd.out]
      exact (loopF_more hst2 hp2.1 hp2.2).symm
     have hm : Hid (8 * l.length - u2.at_ < gk) := by
      have h1 := hp2.1
      have h2 := hp2.2
      have h3 := hgk.out
      unfold Hid
      simp at h1 h2
      omega
     have G2 := Lib.hid g2
     have GC := Lib.hid (hC2.step g3)
     have GO := Lib.hid (HO2.out.trans g3)
     clear hst2 hp2 g1 g2 g3
     go_wp2
     go_roundg (8 * l.length - u2.at_)
     case measure => exact hm.out
     case rel => exact ⟨A2, n2, c2, u2, rfl, G2.out, GC.out, GO.out, HR⟩
   ·by_cases e2 : s = 256
    ·subst e2
     have HR : Hid (codedF l m ls ds u = .ok u1) := by
      unfold Hid
      rw [← hcd.out]
      exact loopF_done (by unfold stepF; rw [H1.out]; rfl)
     go_wp2
     go_end0
     exact .inr ⟨u1, A', n', c', HR.out, rfl, h2, HO2.out⟩
    ·have hne : ((s : Int) == 256) = false := by rw [beq_eq_false_iff_ne]; omega
     have hge : ¬ (s : Int) < 256 := by omega
     have hst : Hid (stepF l m ls ds uu = bnd (matchF l m ds s u1) fun u2 => .ok (false, u2)) := by
      unfold Hid stepF
      rw [H1.out, bnd_ok, if_neg e2, if_neg e1]
     have HLB := Lib.hid (LengthBase_c (s : Int) (wf_nat s (by omega)) w2 h2.tabs)
     have HME := Lib.hid (meant_c h2 (lbI s) (lxI s) (lokI s) (by have := lxI_le s; omega) (by have := lbI_le s; omega))
     have HLX := Lib.hid (And.intro (lxI_le s) (lbI_le s))
     clear e1 e2 h2
     go_wp2_with fail
     refine HLB.out.mono ?_
     rintro e w3 ⟨rfl, rfl⟩
     go_wp2_with fail
     refine HME.out.mono ?_
     rintro e w3 (⟨k, g1, rfl, g2⟩ | ⟨v, u2, g1, hv, rfl, g2, g3⟩)
     ·have HR : Hid (codedF l m ls ds u = .error k) := by
       unfold Hid
       rw [← hcd.out]
       exact loopF_error (by rw [hst.out]; unfold matchF; rw [g1]; rfl)
      clear g1
      go_wp2
      exact ⟨rfl, .inl ⟨k, HR.out, rfl, _, HO2.out.trans g2⟩⟩
     ·have hC3 := hC2.step g3
      obtain ⟨q1', q2', hq, t1, t2⟩ := hC3.ex
      have c1 := hq.cell 1
      simp at c1
      have HSY := Lib.hid (sym_c g2 t2)
      have hlen2 := t2.len
      have HO3 := Lib.hid (HO2.out.trans g3)
      have HC3 := Lib.hid hC3
      have hkk : lbI s + v ≤ 1000000 := by
       have h1 := HLX.out
       have h2 : 2 ^ lxI s ≤ 2 ^ 7 := Nat.pow_le_pow_right (by decide) h1.1
       have h3 : (2 : Nat) ^ 7 = 128 := rfl
       omega
      obtain ⟨kk, hk⟩ : ∃ kk, kk = lbI s + v := ⟨_, rfl⟩
      rw [← hk] at g1 hkk ⊢
      have G1 := Lib.hid g1
      clear g1 g2 g3 hC3 hC2 hq t1 t2 hk hv
      go_wp2_with fail
      refine HSY.out.mono ?_
      rintro e w4 (⟨k, g1, rfl, g2⟩ | ⟨d, u3, g1, hd, rfl, g2, g3⟩)
      ·have HR : Hid (codedF l m ls ds u = .error k) := by
        unfold Hid
        rw [← hcd.out]
        exact loopF_error (by rw [hst.out]; unfold matchF; rw [G1.out, bnd_ok, g1]; rfl)
       clear g1
       go_wp2
       exact ⟨rfl, .inl ⟨k, HR.out, rfl, _, HO3.out.trans g2⟩⟩
      ·have HC4 := Lib.hid (HC3.out.step g3)
       have HO4 := Lib.hid (HO3.out.trans g3)
       have HDB := Lib.hid (DistBase_c (d : Int) (wf_nat d (by omega)) w4 g2.tabs)
       have HMD := Lib.hid (meant_c g2 (dbI d) (dxI d) (dokI d) (by have := dxI_le d; omega) (by have := dbI_le d; omega))
       have G3 := Lib.hid g1
       clear g1 g2 g3 hd hlen2
       go_wp2_with fail
       refine HDB.out.mono ?_
       rintro e w5 ⟨rfl, rfl⟩
       go_wp2_with fail
       refine HMD.out.mono ?_
       rintro e w5 (⟨k, g1, rfl, g2⟩ | ⟨v2, u4, g1, hv, rfl, g2, g3⟩)
       ·have HR : Hid (codedF l m ls ds u = .error k) := by
         unfold Hid
         rw [← hcd.out]
         exact loopF_error (by rw [hst.out]; unfold matchF; rw [G1.out, bnd_ok, G3.out, bnd_ok]; unfold farF; rw [g1]; rfl)
        clear g1
        go_wp2
        exact ⟨rfl, .inl ⟨k, HR.out, rfl, _, HO4.out.trans g2⟩⟩
       ·have HC5 := Lib.hid (HC4.out.step g3)
        have HO5 := Lib.hid (HO4.out.trans g3)
        have hdd : 1 ≤ dbI d + v2 ∧ dbI d + v2 ≤ 1000000 := by
         have h1 := dxI_le d
         have h2 : 2 ^ dxI d ≤ 2 ^ 13 := Nat.pow_le_pow_right (by decide) h1
         have h3 : (2 : Nat) ^ 13 = 8192 := rfl
         have h4 := dbI_le d
         have h5 := dbI_pos (meantF_ok g1)
         omega
        obtain ⟨dd, hk⟩ : ∃ dd, dd = dbI d + v2 := ⟨_, rfl⟩
        rw [← hk] at g1 hdd ⊢
        have HAG := Lib.hid (again_c g2 kk dd hkk hdd.1 hdd.2)
        have hst2 : Hid (stepF l m ls ds uu = bnd (againF m kk dd u4) fun u2 => .ok (false, u2)) := by
         unfold Hid
         rw [hst.out]
         unfold matchF
         rw [G1.out, bnd_ok, G3.out, bnd_ok]
         unfold farF
         rw [g1, bnd_ok]
        clear g1 g2 g3 hv hk
        go_wp2_with fail
        refine HAG.out.mono ?_
        rintro e w6 (⟨k, g1, rfl, b, g2⟩ | ⟨u5, A2, n2, c2, g1, rfl, g2, g3⟩)
        ·have HR : Hid (codedF l m ls ds u = .error k) := by
          unfold Hid
          rw [← hcd.out]
          exact loopF_error (by rw [hst2.out, g1]; rfl)
         clear g1
         go_wp2
         exact ⟨rfl, .inl ⟨k, HR.out, rfl, b, HO5.out.trans g2⟩⟩
        ·have hst3 : stepF l m ls ds uu = .ok (false, u5) := by rw [hst2.out, g1]; rfl
         have hp2 := stepF_prog HLE.out hst3
         have HR : Hid (codedF l m ls ds u5 = codedF l m ls ds u) := by
          unfold Hid
          rw [← hcd.out]
          exact (loopF_more hst3 hp2.1 hp2.2).symm
         have hm : Hid (8 * l.length - u5.at_ < gk) := by
          have h1 := hp2.1
          have h2 := hp2.2
          have h3 := hgk.out
          unfold Hid
          simp at h1 h2
          omega
         have G2 := Lib.hid g2
         have GC := Lib.hid (HC5.out.step g3)
         have GO := Lib.hid (HO5.out.trans g3)
         clear hst3 hp2 g1 g2 g3
         go_wp2
         go_roundg (8 * l.length - u5.at_)
         case measure => exact hm.out
         case rel => exact ⟨A2, n2, c2, u5, rfl, G2.out, GC.out, GO.out, HR⟩
end
end
end Go.Proofs.YtldgdofefcehnaaGreatDoor
