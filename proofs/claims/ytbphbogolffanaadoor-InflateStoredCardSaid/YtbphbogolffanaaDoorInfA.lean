/-
  THE CONTRACTS OF the unpacker's small methods: number, bytes, symbol, put, meant, again. An error is a panic with its number. No conditions.
-/
import Derived.Test.YtbphbogolffanaaDoorInfL
import Derived.WalkLawsBesides
namespace Go.Proofs.YtbphbogolffanaaDoor
open Go.RowKit
set_option maxRecDepth 100000
set_option linter.unusedVariables false

/-- what stays as it was but the unpacker, its reader, and the block of what came out -/
structure UOut (p r : Nat) (a b : Option Nat) (w w' : World) : Prop where
  os : w'.os = w.os
  tape : w'.tape = w.tape
  output : w'.output = w.output
  size : w.heap.size ≤ w'.heap.size
  block : ∀ k, k < w.heap.size → k ≠ p → k ≠ r → a ≠ some k → w'.heap[k]? = w.heap[k]?
  nw : b = a ∨ ∀ g, b = some g → w.heap.size ≤ g
namespace UOut
variable {p r : Nat} {a b c : Option Nat} {w w' w'' : World}
theorem refl (p r : Nat) (a : Option Nat) (w : World) : UOut p r a a w w := ⟨rfl, rfl, rfl, Nat.le_refl _, fun _ _ _ _ _ => rfl, .inl rfl⟩
theorem trans (h : UOut p r a b w w') (k : UOut p r b c w' w'') : UOut p r a c w w'' :=
  ⟨k.os.trans h.os, k.tape.trans h.tape, k.output.trans h.output, Nat.le_trans h.size k.size, fun i hi hp hr ha => (k.block i (Nat.lt_of_lt_of_le hi h.size) hp hr (fun e => by
      rcases h.nw with h1 | h1
      · rw [h1] at e; exact ha e
      · have := h1 i e; omega)).trans (h.block i hi hp hr ha), by
    rcases k.nw with h1 | h1
    · rw [h1]; exact h.nw
    · exact .inr fun g hg => Nat.le_trans h.size (h1 g hg)⟩
theorem drewN (h : UOut p r a b w w') (q : Nat) : UOut p r a b w (w'.drewN q) := ⟨h.os, h.tape, h.output, h.size, h.block, h.nw⟩
theorem setP (h : UOut p r a b w w') (i : Nat) (v : Value) : UOut p r a b w (w'.setCell ⟨p, i, none⟩ v) :=
  ⟨h.os, h.tape, h.output, by simpa [World.setCell] using h.size, fun k hk hp hr ha => (Below.heap_setCell _ _ _ _ hp).trans (h.block k hk hp hr ha), h.nw⟩
theorem ofOut (h : Out r (r + 1) w w') : UOut p r a a w w' := ⟨h.os, h.tape, h.output, h.size, fun k hk _ hr _ => h.block k hk (by omega), .inl rfl⟩
theorem ofBelow (h : Below w.heap.size w w') : UOut p r a a w w' := ⟨h.os, h.tape, h.output, h.size, fun k hk _ _ _ => h.block k hk, .inl rfl⟩
theorem ofGrown (h : w.grownBy w' a) (hb : b = a ∨ ∀ g, b = some g → w.heap.size ≤ g) : UOut p r a b w w' := ⟨h.os, h.tape, h.output, h.size, fun k hk _ _ ha => h.block k hk (fun e => ha e.symm), hb⟩
theorem below {B : Nat} (h : UOut p r a b w w') (hp : B ≤ p) (hr : B ≤ r) (hs : B ≤ w.heap.size) (ha : ∀ g, a = some g → B ≤ g) : Below B w w' :=
  ⟨h.os, h.tape, h.output, h.size, fun k hk => h.block k (by omega) (by omega) (by omega) (fun e => by have := ha k e; omega)⟩
theorem blk {g : Nat} {t : TypeId} {C : Array Value} (h : UOut p r a b w w') (hg : Blk w g t C) (h1 : g ≠ p) (h2 : g ≠ r) (h3 : a ≠ some g) : Blk w' g t C := by
  have hl := hg.lt
  unfold Blk at hg ⊢
  rw [h.block g hl h1 h2 h3]
  exact hg
end UOut
theorem Tabs.uout {w w' : World} {p r : Nat} {a b : Option Nat} (h : Tabs w) (hp : 1 < p) (hr : 1 < r) (ha : ∀ g, a = some g → 1 < g) (ho : UOut p r a b w w') : Tabs w' := by
  have hs := h.size
  have hs2 := ho.size
  refine ⟨by omega, fun i hi => ?_, fun i hi => ?_⟩
  · rw [World.cell?_of_block (a := ⟨0, i, none⟩) (ho.block 0 (by omega) (by omega) (by omega) (fun e => by have := ha 0 e; omega))]
    exact h.len i hi
  · rw [World.cell?_of_block (a := ⟨1, i, none⟩) (ho.block 1 hs (by omega) (by omega) (fun e => by have := ha 1 e; omega))]
    exact h.dist i hi
/-- an unpacker in memory: its reader's bytes, what came out, how much may; what it made, but for this, stands behind H -/
structure UnP (w : World) (H p r : Nat) (RA : Option Addr) (len rc : Nat) (l : List F) (A : Option Addr) (n c : Nat) (u : Un) (m : Nat) (x : Value) : Prop where
  blk : Blk w p 44 #[.pointer (some ⟨r, 0, none⟩), .slice A n c, .int .i64 m, x]
  rd : RdB w r RA len rc l u.at_
  own : w.ownsRow H 5 1 (.slice A n c) n (cs u.out)
  ne : p ≠ r
  lo : p < H ∧ r < H
  lor : ∀ b o, RA = some ⟨b, o, none⟩ → b < H ∧ b ≠ p
  few : n ≤ m ∧ m ≤ 1000000
  here : H ≤ w.heap.size
  tabs : Tabs w
  low : 1 < p ∧ 1 < r ∧ 1 < H
namespace UnP
variable {w w' : World} {H p r : Nat} {RA : Option Addr} {len rc : Nat} {l : List F} {A : Option Addr} {n c : Nat} {u u' : Un} {m : Nat} {x : Value}
theorem len_ (h : UnP w H p r RA len rc l A n c u m x) : l.length = len := h.rd.row.row.len
theorem out_ (h : UnP w H p r RA len rc l A n c u m x) : u.out.length = n := own_len h.own
theorem drewN (h : UnP w H p r RA len rc l A n c u m x) (q : Nat) : UnP (w.drewN q) H p r RA len rc l A n c u m x := ⟨h.blk, h.rd.drewN q, h.own, h.ne, h.lo, h.lor, h.few, h.here, h.tabs.drewN q, h.low⟩
theorem below (h : UnP w H p r RA len rc l A n c u m x) (hb : Below w.heap.size w w') : UnP w' H p r RA len rc l A n c u m x :=
  ⟨h.blk.below h.blk.lt hb, h.rd.below hb, own_below h.own hb, h.ne, h.lo, h.lor, h.few, Nat.le_trans h.here hb.size, h.tabs.below hb, h.low⟩
theorem alloc (h : UnP w H p r RA len rc l A n c u m x) (o : Obj) : UnP (w.alloc o) H p r RA len rc l A n c u m x := h.below ((Below.refl _ _).alloc (Nat.le_refl _) _)
/-- the reader alone has gone on -/
theorem read (h : UnP w H p r RA len rc l A n c u m x) {k : Nat} (hr : RdB w' r RA len rc l k) (ho : Out r (r + 1) w w') : UnP w' H p r RA len rc l A n c ⟨k, u.out⟩ m x := by
  refine ⟨?_, hr, ?_, h.ne, h.lo, h.lor, h.few, Nat.le_trans h.here ho.size, h.tabs.uout h.low.1 h.low.2.1 (fun g hg => by have := (h.own.lt g hg).1; have := h.low; omega) (UOut.ofOut (p := p) (a := (Value.slice A n c).ownBlock) ho), h.low⟩
  · have h1 := h.blk
    have h2 := h1.lt
    have h3 := h.ne
    unfold Blk at h1 ⊢
    rw [ho.block p h2 (by omega)]
    exact h1
  · have h4 := h.own
    refine ⟨h4.1, ?_⟩
    have h5 := h.lo
    rcases h4.2 with hn | ⟨g, cap, cur, hv, hbg, hg, rest⟩
    · exact .inl hn
    · exact .inr ⟨g, cap, cur, hv, hbg, (ho.block g (Array.getElem?_eq_some_iff.1 hg).1 (by omega)).trans hg, rest⟩
end UnP
section
variable {w : World} {H p r : Nat} {RA : Option Addr} {len rc : Nat} {l : List F} {A : Option Addr} {n c : Nat} {u : Un} {m : Nat} {x : Value}
theorem held_of {s : Nat} (hs : s ≤ 32) : heldN (s : Int) 32 = s := by unfold heldN; omega
theorem num_ok (h : UnP w H p r RA len rc l A n c u m x) (s : Nat) (hs : s ≤ 32) {v : Nat} {u' : Un} (hf : numF l s u = .ok (v, u')) :
    Calls Tryd.prog 23 #[.pointer (some ⟨p, 0, none⟩), .int .i64 s] w fun e w' => e = .returned (.int .i64 v) ∧ UnP w' H p r RA len rc l A n c u' m x ∧ UOut p r (Value.slice A n c).ownBlock (Value.slice A n c).ownBlock w w' := by
  obtain ⟨h1, h2⟩ := numF_inv hf
  injection h2 with h2 h3
  subst h2 h3
  have hl := h.len_
  have hg := GetB_ok h.rd (s : Int) (by rw [held_of hs]; omega)
  rw [held_of hs] at hg
  have hlt := numB_lt l u.at_ s
  have hp : 2 ^ s ≤ 2 ^ 32 := Nat.pow_le_pow_right (by decide) hs
  have e32 : (2 : Nat) ^ 32 = 4294967296 := rfl
  generalize numB l u.at_ s = v at *
  have hv : (v : Int) < 4294967296 := by omega
  have c0 := h.blk.cell 0
  simp at c0
  have HG := Lib.hid hg
  have HH := Lib.hid h
  clear hg h hf h1 hl hlt hp e32
  go_enter Tryd.func23, Tryd.ntmps23
  go_wp2_with (go_at_call 36; refine HG.out.mono ?_; rintro e w' ⟨rfl, hR, hO⟩)
  go_ret
  exact ⟨rfl, HH.out.read hR hO, UOut.ofOut hO⟩
theorem num_no (h : UnP w H p r RA len rc l A n c u m x) (s : Nat) (hs : s ≤ 32) {k : Nat} (hf : numF l s u = .error k) :
    Calls Tryd.prog 23 #[.pointer (some ⟨p, 0, none⟩), .int .i64 s] w fun e w' => e = .panicked [{ v := .iface 24 (.int .i64 k), recovered := false }] ∧ UOut p r (Value.slice A n c).ownBlock (Value.slice A n c).ownBlock w w' := by
  have hl := h.len_
  have h1 : ¬ u.at_ + s ≤ 8 * l.length := fun e => by unfold numF at hf; rw [if_pos e] at hf; cases hf
  unfold numF at hf
  rw [if_neg h1] at hf
  injection hf with hf
  subst hf
  have hg := GetB_no h.rd (s : Int) (by rw [held_of hs]; omega)
  have c0 := h.blk.cell 0
  simp at c0
  have HG := Lib.hid hg
  clear hg h hl h1
  go_enter Tryd.func23, Tryd.ntmps23
  go_wp2_with (go_at_call 36; refine HG.out.mono ?_; rintro e w' ⟨rfl, hR, hO⟩)
  exact ⟨rfl, rfl, UOut.ofOut hO⟩
theorem put_no (h : UnP w H p r RA len rc l A n c u m x) (v : F) {k : Nat} (hf : putF m v u = .error k) :
    Calls Tryd.prog 40 #[.pointer (some ⟨p, 0, none⟩), .int .u8 v.n] w fun e w' => e = .panicked [{ v := .iface 24 (.int .i64 k), recovered := false }] ∧ UOut p r (Value.slice A n c).ownBlock (Value.slice A n c).ownBlock w w' := by
  have h1 : ¬ u.out.length < m := fun e => by unfold putF at hf; rw [if_pos e] at hf; cases hf
  unfold putF at hf
  rw [if_neg h1] at hf
  injection hf with hf
  subst hf
  have hl := h.out_
  have hfew := h.few
  have heq : ((n : Int) == (m : Int)) = true := by rw [beq_iff_eq]; omega
  have c1 := h.blk.cell 1
  have c2 := h.blk.cell 2
  simp at c1 c2
  clear h hl h1
  go_enter Tryd.func40, Tryd.ntmps40
  go_wp2
  go_quiet (fail)
  go_wp2
  exact ⟨rfl, rfl, (UOut.refl _ _ _ _).drewN _⟩
set_option maxHeartbeats 1000000 in
theorem put_ok (h : UnP w H p r RA len rc l A n c u m x) (v : F) {u' : Un} (hf : putF m v u = .ok u') :
    Calls Tryd.prog 40 #[.pointer (some ⟨p, 0, none⟩), .int .u8 v.n] w fun e w' => e = .returned (.tuple #[]) ∧ ∃ A' n' c', UnP w' H p r RA len rc l A' n' c' u' m x ∧ UOut p r (Value.slice A n c).ownBlock (Value.slice A' n' c').ownBlock w w' := by
  obtain ⟨i0, hi, hz0, hz1, hz2⟩ := info_parts info_u8
  obtain ⟨h1, rfl⟩ := putF_inv hf
  have hl := h.out_
  have hfew := h.few
  have heq : ((n : Int) == (m : Int)) = false := by rw [beq_eq_false_iff_ne]; omega
  have c1 := h.blk.cell 1
  have c2 := h.blk.cell 2
  have f1 := h.blk.frozen 1
  simp at c1 c2
  have HN : Hid (n + 1 ≤ m) := by unfold Hid; omega
  have HW := Lib.hid (h.drewN 0)
  have H0 := Lib.hid h
  clear h hl h1 hf
  go_enter Tryd.func40, Tryd.ntmps40
  go_wp2
  go_quiet (fail)
  have hW := H0.out.drewN nq
  have hO0 : UOut p r (Value.slice A n c).ownBlock (Value.slice A n c).ownBlock w (w.drewN nq) := (UOut.refl _ _ _ _).drewN nq
  clear c1 c2 f1
  generalize w.drewN nq = W at *
  have c1 := hW.blk.cell 1
  have f1 := hW.blk.frozen 1
  simp at c1
  have HW := Lib.hid hW
  have hpW := hW.blk.lt
  have hHW := hW.here
  clear hW
  go_wp2_with (at_builtin; refine wpList_append_lies _ rfl (.tmp 19) (.tmp 21) 22 rfl H 5 i0 (.int .u8 0) 1 1 Tryd.underlying22 hi hz0 hz1 hz2 rfl (by decide) (.slice A n c) n (cs u.out) rfl (HW.out.own.alloc _) ⟨W.heap.size, 0, none⟩ 1 1 [.int .u8 v.n] rfl rfl (one_cell W _ _) (by intro u hu; simp at hu; subst hu; rfl) (by omega) (by unfold maxLen; omega) (by omega) (by simp; omega) (W.heap.size + 1) (by simp) ?_; intro g cap' w1 hown1 hg1 hat1 hlt1; have hblk1 := Blk.kept (HW.out.blk.below HW.out.blk.lt ((Below.refl _ W).alloc (Nat.le_refl _) (.cells #[.int .u8 v.n] 5))) hg1 ⟨by simp; omega, fun e => by have := (HW.out.own.lt p e).1; have := HW.out.lo; omega⟩; have d1 := hblk1.cell 1; have g1 := hblk1.frozen 1; simp at d1)
  go_end0
  have hlo := HW.out.lo
  have hOw : UOut p r (Value.slice A n c).ownBlock (some g) W w1 := by
    refine ⟨hg1.os, hg1.tape, hg1.output, ?_, fun k hk hp hr ha => ?_, ?_⟩
    · have := hg1.size; simp at this; omega
    · rw [hg1.block k (by simp; omega) (fun e => ha e.symm)]
      exact Below.heap_alloc _ _ _ hk
    · rcases hat1 with h1 | h1
      · exact .inl h1.symm
      · exact .inr fun y hy => by cases hy; omega
  refine ⟨rfl, some ⟨g, 0, none⟩, n + 1, cap', ⟨hblk1.set_ 1 _, ?_, own_set_other ?_ (by show p < H; omega) _, HW.out.ne, hlo, HW.out.lor, ⟨HN.out, HW.out.few.2⟩, ?_, HW.out.tabs.uout HW.out.low.1 HW.out.low.2.1 (fun g hg => by have := (HW.out.own.lt g hg).1; have := HW.out.low; omega) (hOw.setP 1 _), HW.out.low⟩, (hO0.trans hOw).setP 1 _⟩
  · have hrd := HW.out.rd
    have hgr : ∀ k, k < W.heap.size → k < H → w1.heap[k]? = W.heap[k]? := fun k hk hH => by
      rw [hg1.block k (by simp; omega) (fun e => by have := (HW.out.own.lt k e.symm).1; omega)]
      exact Below.heap_alloc _ _ _ hk
    refine ⟨?_, ⟨⟨hrd.row.row.1, hrd.row.row.2.1, fun hn => ?_⟩, hrd.row.le, hrd.row.max⟩, hrd.le, hrd.ne, hrd.few⟩
    · have hb := hrd.blk
      have hb2 := hb.lt
      have h5 := HW.out.ne
      unfold Blk at hb ⊢
      rw [Go.Deep.blk_setCell_other _ _ _ _ (show r ≠ p by omega), hgr r hb2 hlo.2]
      exact hb
    · obtain ⟨b, o, e, hbl, hc⟩ := hrd.row.row.2.2 hn
      have h6 := HW.out.lor b o e
      refine ⟨b, o, e, by have := hg1.size; simp [World.setCell] at this ⊢; omega, fun i hi => ?_⟩
      rw [← hc i hi]
      refine World.cell?_of_block (a := ⟨b, o + i, none⟩) ?_
      show (w1.setCell _ _).heap[b]? = _
      rw [Go.Deep.blk_setCell_other _ _ _ _ (show b ≠ p by omega), hgr b hbl h6.1]
  · have := hown1
    rw [show cs (u.out ++ [v]) = cs u.out ++ [.int .u8 v.n] by rw [cs_append]; rfl]
    exact this
  · have := hOw.size
    simp [World.setCell]
    omega
theorem bytes_no (h : UnP w H p r RA len rc l A n c u m x) (s : Nat) (hs : l.length < (u.at_ + 7) / 8 + s) :
    Calls Tryd.prog 38 #[.pointer (some ⟨p, 0, none⟩), .int .i64 s] w fun e w' => e = .panicked [{ v := .iface 24 (.int .i64 20), recovered := false }] ∧ UOut p r (Value.slice A n c).ownBlock (Value.slice A n c).ownBlock w w' := by
  have hg := BytesR_no h.rd (s : Int) s (by omega) (by rw [← h.len_]; exact hs)
  have c0 := h.blk.cell 0
  simp at c0
  have HG := Lib.hid hg
  clear hg h hs
  go_enter Tryd.func38, Tryd.ntmps38
  go_wp2_with (go_at_call 57; refine HG.out.mono ?_; rintro e w' ⟨rfl, hR, hO⟩)
  exact ⟨rfl, rfl, UOut.ofOut hO⟩
theorem bytes_ok (h : UnP w H p r RA len rc l A n c u m x) (s : Nat) (hs : (u.at_ + 7) / 8 + s ≤ l.length) :
    Calls Tryd.prog 38 #[.pointer (some ⟨p, 0, none⟩), .int .i64 s] w fun e w' => ∃ A' c', e = .returned (.slice A' s c') ∧ w'.ownsRow w.heap.size 5 1 (.slice A' s c') s (cs ((l.drop ((u.at_ + 7) / 8)).take s)) ∧ UnP w' H p r RA len rc l A n c ⟨8 * ((u.at_ + 7) / 8 + s), u.out⟩ m x ∧ UOut p r (Value.slice A n c).ownBlock (Value.slice A n c).ownBlock w w' := by
  have hg := BytesR_ok h.rd (s : Int) s (by omega) (by rw [← h.len_]; exact hs)
  rw [show upB u.at_ + 8 * s = 8 * ((u.at_ + 7) / 8 + s) by unfold upB; omega] at hg
  have c0 := h.blk.cell 0
  simp at c0
  have HG := Lib.hid hg
  have HH := Lib.hid h
  clear hg h hs
  go_enter Tryd.func38, Tryd.ntmps38
  go_wp2_with (go_at_call 57; refine HG.out.mono ?_; rintro e w' ⟨A', c', rfl, hown, hR, hO⟩)
  go_ret
  exact ⟨A', c', rfl, hown, HH.out.read hR hO, UOut.ofOut hO⟩
/-- a table of codes in memory, apart from what an unpacker writes -/
structure Tbl (w : World) (p r : Nat) (a : Option Nat) (q : Nat) (l : List Int) : Prop where
  ex : ∃ n gc LA lc S, TabIn w q n l gc LA lc S ∧ FarT p q n gc LA S ∧ FarT r q n gc LA S ∧ ∀ g, a = some g → FarT g q n gc LA S
theorem TabIn.uout {w w' : World} {p r : Nat} {a b : Option Nat} {q n : Nat} {l : List Int} {gc : Nat} {LA : Option Addr} {lc : Nat} {S : Nat → Value} (h : TabIn w q n l gc LA lc S) (hp : FarT p q n gc LA S) (hr : FarT r q n gc LA S) (ha : ∀ g, a = some g → FarT g q n gc LA S) (ho : UOut p r a b w w') : TabIn w' q n l gc LA lc S := by
  have hs := ho.size
  have key : ∀ k, k < w.heap.size → (∀ y, FarT y q n gc LA S → k ≠ y) → w'.heap[k]? = w.heap[k]? := fun k hk hy => ho.block k hk (hy p hp) (hy r hr) (fun e => hy k (ha k e) rfl)
  refine ⟨?_, fun i hi => ?_, ?_, fun j hj => ?_, h.ok, fun j hj g hg => by have := h.held j hj g hg; omega⟩
  · have h1 := h.blk
    have h2 := h1.lt
    unfold Blk at h1 ⊢
    rw [key q h2 fun y hy => hy.tab]
    exact h1
  · obtain ⟨h1, h2⟩ := h.codes i hi
    refine ⟨by omega, ?_⟩
    rw [World.cell?_of_block (a := ⟨gc, i, none⟩) (key gc h1 fun y hy => hy.cod (by omega))]
    exact h2
  · refine ⟨h.lens.len, h.lens.max, fun hn => ?_, h.lens.wf⟩
    obtain ⟨b, off, e, hl, hc⟩ := h.lens.cells hn
    refine ⟨b, off, e, by omega, fun i hi => ?_⟩
    rw [World.cell?_of_block (a := ⟨b, off + i, none⟩) (key b hl fun y hy => hy.len hn b off e)]
    exact hc i hi
  · obtain ⟨O, c, h1, h2⟩ := h.rows j hj
    refine ⟨O, c, h1, fun i hi hij => ?_⟩
    obtain ⟨g, h3, h4, h5⟩ := h2 i hi hij
    refine ⟨g, h3, by omega, ?_⟩
    rw [World.cell?_of_block (a := ⟨g, cL l j i, none⟩) (key g h4 fun y hy e => hy.row j hj (by rw [h1, own_block_at h3, e]))]
    exact h5
theorem Tbl.step {w w' : World} {p r : Nat} {a b : Option Nat} {q : Nat} {l : List Int} (h : Tbl w p r a q l) (ho : UOut p r a b w w') : Tbl w' p r b q l := by
  obtain ⟨n, gc, LA, lc, S, h1, h2, h3, h4⟩ := h.ex
  refine ⟨n, gc, LA, lc, S, h1.uout h2 h3 h4 ho, h2, h3, fun g hg => ?_⟩
  rcases ho.nw with e | e
  · exact h4 g (by rw [← e]; exact hg)
  · exact h1.far (e g hg)
theorem sym_c {q : Nat} {cl : List Int} (h : UnP w H p r RA len rc l A n c u m x) (ht : Tbl w p r (Value.slice A n c).ownBlock q cl) :
    Calls Tryd.prog 39 #[.pointer (some ⟨p, 0, none⟩), .pointer (some ⟨q, 0, none⟩)] w fun e w' =>
      (∃ k, symF l cl u = .error k ∧ e = .panicked [{ v := .iface 24 (.int .i64 k), recovered := false }] ∧ UOut p r (Value.slice A n c).ownBlock (Value.slice A n c).ownBlock w w') ∨
      (∃ v u', symF l cl u = .ok (v, u') ∧ v < cl.length ∧ e = .returned (.int .i64 (v : Nat)) ∧ UnP w' H p r RA len rc l A n c u' m x ∧ UOut p r (Value.slice A n c).ownBlock (Value.slice A n c).ownBlock w w') := by
  obtain ⟨N, gc, LA, lc, S, h1, h2, h3, h4⟩ := ht.ex
  have hg := ReadT_c h1 h.rd h3
  have hr := h1.ok.right
  have hk := h1.ok.fit
  rw [← h1.ok.len] at hk
  have hle := h.rd.le
  have hl := h.len_
  have HE : Hid (∀ s k e, RdS cl (rb l) (8 * len) u.at_ s k e → rdF cl (rb l) (8 * l.length) u.at_ = (s, k, e)) := fun s k e he => by rw [hl]; exact rdF_eq hr hk hle he
  have c0 := h.blk.cell 0
  simp at c0
  have HG := Lib.hid hg
  have HH := Lib.hid h
  clear hg h ht h1 h2 h3 h4 hr hk hle hl
  go_enter Tryd.func39, Tryd.ntmps39
  go_wp2_with fail
  refine HG.out.mono ?_
  rintro e w' ⟨s, k, er, rfl, hrd, hR, hO⟩
  have hq := HE.out s k er hrd
  by_cases h0 : er = 0
  · subst h0
    have hs : s < cl.length := by
      rcases hrd.2 with ⟨_, _, _, h5, _⟩ | ⟨h5, _⟩ | ⟨h5, _⟩
      · exact h5
      · cases h5
      · cases h5
    have HS := Lib.hid hs
    have HF : Hid (symF l cl u = .ok (s, ⟨u.at_ + k, u.out⟩)) := by unfold Hid symF; rw [hq]; rfl
    clear hrd hq hs
    go_wp2
    go_ret
    exact .inr ⟨s, _, HF.out, HS.out, rfl, HH.out.read hR hO, UOut.ofOut hO⟩
  · have HF : Hid (symF l cl u = .error er) := by unfold Hid symF; rw [hq]; exact if_neg h0
    have hne : ((er : Int) != 0) = true := by rw [bne_iff_ne]; omega
    clear hrd hq h0
    go_wp2
    exact ⟨rfl, .inl ⟨er, HF.out, rfl, UOut.ofOut hO⟩⟩
end
end Go.Proofs.YtbphbogolffanaaDoor
