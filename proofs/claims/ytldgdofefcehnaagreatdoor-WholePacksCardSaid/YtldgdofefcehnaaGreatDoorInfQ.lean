/-
  THE CONTRACTS OF THE DOCUMENT's OWN ANSWERS FOR LAYER 12: get, read, put, stored. No conditions.
  THE CONTRACTS OF THE DOCUMENT's OWN ANSWERS FOR LAYER 12: match, block. No conditions.
-/
import Derived.Test.YtldgdofefcehnaaGreatDoorInfM
import Derived.Test.YtldgdofefcehnaaGreatDoorCanG
import Derived.Test.YtldgdofefcehnaaGreatDoorSym
namespace Go.Proofs.YtldgdofefcehnaaGreatDoor
section
open Go.RowKit
set_option maxRecDepth 100000
set_option linter.unusedVariables false
structure ROut (a b : Option Nat) (w w' : World) : Prop where
 os : w'.os = w.os
 tape : w'.tape = w.tape
 output : w'.output = w.output
 size : w.heap.size ≤ w'.heap.size
 block : ∀ k, k < w.heap.size → a ≠ some k → w'.heap[k]? = w.heap[k]?
 nw : b = a ∨ ∀ g, b = some g → w.heap.size ≤ g
namespace ROut
variable {a b c : Option Nat} {w w' w'' : World}
theorem refl (a : Option Nat) (w : World) : ROut a a w w := ⟨rfl, rfl, rfl, Nat.le_refl _, fun _ _ _ => rfl, .inl rfl⟩
theorem trans (h : ROut a b w w') (k : ROut b c w' w'') : ROut a c w w'' :=
 ⟨k.os.trans h.os, k.tape.trans h.tape, k.output.trans h.output, Nat.le_trans h.size k.size, fun i hi ha => (k.block i (Nat.lt_of_lt_of_le hi h.size) (fun e => by
   rcases h.nw with h1 | h1
   ·rw [h1] at e; exact ha e
   ·have := h1 i e; omega)).trans (h.block i hi ha), by
  rcases k.nw with h1 | h1
  ·rw [h1]; exact h.nw
  ·exact .inr fun g hg => Nat.le_trans h.size (h1 g hg)⟩
theorem drewN (h : ROut a b w w') (q : Nat) : ROut a b w (w'.drewN q) := ⟨h.os, h.tape, h.output, h.size, h.block, h.nw⟩
theorem ofBelow (h : Below w.heap.size w w') : ROut a a w w' := ⟨h.os, h.tape, h.output, h.size, fun k hk _ => h.block k hk, .inl rfl⟩
theorem ofGrown (h : w.grownBy w' a) (hb : b = a ∨ ∀ g, b = some g → w.heap.size ≤ g) : ROut a b w w' := ⟨h.os, h.tape, h.output, h.size, fun k hk ha => h.block k hk (fun e => ha e.symm), hb⟩
theorem below {B : Nat} (h : ROut a b w w') (hs : B ≤ w.heap.size) (ha : ∀ g, a = some g → B ≤ g) : Below B w w' :=
 ⟨h.os, h.tape, h.output, h.size, fun k hk => h.block k (by omega) (fun e => by have := ha k e; omega)⟩
theorem blk {g : Nat} {t : TypeId} {C : Array Value} (h : ROut a b w w') (hg : Blk w g t C) (h3 : a ≠ some g) : Blk w' g t C := by
 have hl := hg.lt
 unfold Blk at hg ⊢
 rw [h.block g hl h3]
 exact hg
theorem setNew (h : ROut a b w w') {g : Nat} (hg : w.heap.size ≤ g) (i : Nat) (v : Value) : ROut a b w (w'.setCell ⟨g, i, none⟩ v) :=
 ⟨h.os, h.tape, h.output, by simpa [World.setCell] using h.size, fun k hk ha => (Below.heap_setCell _ _ _ _ (show k ≠ g by omega)).trans (h.block k hk ha), h.nw⟩
theorem setRow (h : ROut a b w w') {g : Nat} (hg : w.heap.size ≤ g) (D : Array Value) : ROut a b w (w'.setRow g D) :=
 ⟨h.os, h.tape, h.output, by simpa [World.setRow] using h.size, fun k hk ha => by
  rw [← h.block k hk ha]
  simp [World.setRow, Array.getElem?_modify]
  intro e
  omega, h.nw⟩
end ROut
theorem blk_setRow_other {w : World} {g k : Nat} (h : k ≠ g) (D : Array Value) : (w.setRow g D).heap[k]? = w.heap[k]? := by
 simp [World.setRow, Array.getElem?_modify]
 intro e
 omega
theorem own_blk {w w' : World} {base n : Nat} {e : TypeId} {v : Value} {xs : List Value} (h : w.ownsRow base e 1 v n xs) (hk : ∀ g, v.ownBlock = some g → w'.heap[g]? = w.heap[g]?) : w'.ownsRow base e 1 v n xs := by
 refine ⟨h.1, ?_⟩
 rcases h.2 with hn | ⟨g, cap, cur, rfl, hbg, hg, rest⟩
 ·exact .inl hn
 ·exact .inr ⟨g, cap, cur, rfl, hbg, (hk g rfl).trans hg, rest⟩
theorem numX_of (l : List F) (a n : Nat) : numX (bitsOf l) a n = numB l a n := bsN_congr fun i _ => gbit_bitsOf l _
def sV (B : Option Addr) (nb cb : Nat) (X : Option Addr) (nx cx : Nat) (at_ : Int) (A : Option Addr) (n c : Nat) (most E : Int) : Value :=
 .agg #[.slice B nb cb, .slice X nx cx, .int .i64 at_, .slice A n c, .int .i64 most, .int .i64 E]
structure RSt (w : World) (H : Nat) (B : Option Addr) (nb cb : Nat) (X : Option Addr) (nx cx : Nat) (l : List F) (A : Option Addr) (n c : Nat) (u : Un) (M : Nat) : Prop where
 brow : RowIn w B nb cb l
 bits : RowIn w X nx cx (bc (bitsOf l))
 own : w.ownsRow H 5 1 (.slice A n c) n (cs u.out)
 lob : 0 < nb → ∀ b o, B = some ⟨b, o, none⟩ → b < H
 lox : 0 < nx → ∀ b o, X = some ⟨b, o, none⟩ → b < H
 here : H ≤ w.heap.size
 few : nb ≤ 10000 ∧ n ≤ M ∧ M ≤ 1000000
 at_le : u.at_ ≤ 8 * nb
section
variable {w : World} {H : Nat} {B : Option Addr} {nb cb : Nat} {X : Option Addr} {nx cx : Nat} {l : List F} {A : Option Addr} {n c : Nat} {u : Un} {M : Nat} {most : Int}
theorem rget_c (h : RSt w H B nb cb X nx cx l A n c u M) (s : Nat) (hs : s ≤ 32) :
  Calls Tryz.prog 42 #[sV B nb cb X nx cx u.at_ A n c most 0, .int .i64 s] w fun e w' =>
   (∃ z av, numF l s u = .error z ∧ e = .returned (.tuple #[sV B nb cb X nx cx av A n c most z, .int .i64 0]) ∧ Below w.heap.size w w') ∨
   (∃ v u', numF l s u = .ok (v, u') ∧ u'.out = u.out ∧ v < 2 ^ s ∧ u'.at_ ≤ 8 * nb ∧ e = .returned (.tuple #[sV B nb cb X nx cx u'.at_ A n c most 0, .int .i64 v]) ∧ Below w.heap.size w w') := by
 have hxl := h.bits.row.len
 rw [bc_length, bitsOf_length, h.brow.row.len] at hxl
 have hw : ∀ W, Row W X nx (bc (bitsOf l)) → Row W X nx (bc (bitsOf l)) := fun _ h => h
 have hf := h.few
 have hat := h.at_le
 have hlen := h.brow.row.len
 have HX : Hid (∀ W, Below w.heap.size w W → Row W X nx (bc (bitsOf l))) := fun W hb => h.bits.row.below hb
 obtain ⟨a, ha⟩ : ∃ a, a = u.at_ := ⟨_, rfl⟩
 have HA := Lib.hid ha
 rw [← ha] at hat ⊢
 have hheld : heldN (s : Int) 32 = s := held_of hs
 by_cases hok : a + s ≤ 8 * nb
 ·have hN : Hid (numF l s u = .ok (numB l a s, ⟨a + s, u.out⟩)) := by unfold Hid numF; rw [hlen, ← ha, if_pos hok]
  have HG : Hid (∀ W, Row W X nx (bc (bitsOf l)) → Calls Tryz.prog 88 #[.slice X nx cx, .int .i64 a, .int .i64 s] W fun e w' => e = .returned (.tuple #[.int .u32 (numB l a s), .bool true]) ∧ W = w') := fun W hW => by
   have := RefGetB_ok X nx cx a s (bitsOf l) W hW (by omega) (by rw [hheld]; omega)
   rwa [hheld, numX_of] at this
  have hlt := numB_lt l a s
  have hp : 2 ^ s ≤ 2 ^ 32 := Nat.pow_le_pow_right (by decide) hs
  have e32 : (2 : Nat) ^ 32 = 4294967296 := rfl
  generalize numB l a s = v at *
  have HLT := Lib.hid hlt
  have hv : (v : Int) < 4294967296 := by omega
  unfold sV
  clear h hlt hp e32 hw ha hlen hheld
  go_enter Tryz.func42, Tryz.ntmps42
  go_wp2_with (go_at_call 88; refine (HG.out _ (HX.out _ (((Below.refl _ _).alloc (Nat.le_refl _) _).alloc (by simp) _))).mono ?_; rintro e w1 ⟨rfl, rfl⟩)
  refine bodyPost_ret (v := .tuple #[.agg #[.slice B nb cb, .slice X nx cx, .int .i64 (a + s), .slice A n c, .int .i64 most, .int .i64 0], .int .i64 v]) (by simp [results, Tryz.results42, go_sem]) rfl ?_
  exact .inr ⟨v, ⟨a + s, u.out⟩, hN.out, rfl, HLT.out, hok, by simp, ((Below.refl _ _).alloc (Nat.le_refl _) _).alloc (by simp) _⟩
 ·have hN : Hid (numF l s u = .error 20) := by unfold Hid numF; rw [hlen, ← ha, if_neg hok]
  have HG : Hid (∀ W, Calls Tryz.prog 88 #[.slice X nx cx, .int .i64 a, .int .i64 s] W fun e w' => e = .returned (.tuple #[.int .u32 0, .bool false]) ∧ W = w') := fun W =>
   RefGetB_no X nx cx a s W (by omega) (by omega) (by rw [hheld]; omega)
  unfold sV
  clear h hw ha hlen hheld
  go_enter Tryz.func42, Tryz.ntmps42
  go_wp2_with (go_at_call 88; refine (HG.out _).mono ?_; rintro e w1 ⟨rfl, rfl⟩)
  refine bodyPost_ret (v := .tuple #[.agg #[.slice B nb cb, .slice X nx cx, .int .i64 a, .slice A n c, .int .i64 most, .int .i64 20], .int .i64 0]) (by simp [results, Tryz.results42, go_sem]) rfl ?_
  exact .inl ⟨20, _, hN.out, rfl, ((Below.refl _ _).alloc (Nat.le_refl _) _).alloc (by simp) _⟩
theorem Blk.six {w : World} {g : Nat} {t : TypeId} {a b c d e f : Value} (h : Blk w g t #[a, b, c, d, e, f]) :
  (w.cell? ⟨g, 0, none⟩ = some a ∧ w.cell? ⟨g, 1, none⟩ = some b ∧ w.cell? ⟨g, 2, none⟩ = some c ∧ w.cell? ⟨g, 3, none⟩ = some d ∧ w.cell? ⟨g, 4, none⟩ = some e ∧ w.cell? ⟨g, 5, none⟩ = some f) ∧
  (w.frozen? ⟨g, 0, none⟩ = false ∧ w.frozen? ⟨g, 1, none⟩ = false ∧ w.frozen? ⟨g, 2, none⟩ = false ∧ w.frozen? ⟨g, 3, none⟩ = false ∧ w.frozen? ⟨g, 4, none⟩ = false ∧ w.frozen? ⟨g, 5, none⟩ = false) :=
 ⟨⟨by simpa using h.cell 0, by simpa using h.cell 1, by simpa using h.cell 2, by simpa using h.cell 3, by simpa using h.cell 4, by simpa using h.cell 5⟩, h.frozen 0, h.frozen 1, h.frozen 2, h.frozen 3, h.frozen 4, h.frozen 5⟩
theorem setCell_blk {w : World} {g : Nat} {t : TypeId} {C : Array Value} (h : Blk w g t C) (i : Nat) (v : Value) : w.setCell ⟨g, i, none⟩ v = w.setRow g (C.setIfInBounds i v) := by
 unfold World.setCell World.setRow
 congr 1
 refine Array.ext_getElem? fun k => ?_
 rw [Array.getElem?_modify, Array.getElem?_modify]
 by_cases e : g = k
 ·subst e
  have h2 : w.heap[g]? = some (.cells C t (0, 0)) := h
  simp [h2]
 ·simp [e]
theorem setRow_setRow {w : World} {g : Nat} {t : TypeId} {C : Array Value} (h : Blk w g t C) (D E : Array Value) : (w.setRow g D).setRow g E = w.setRow g E := by
 unfold World.setRow
 congr 1
 refine Array.ext_getElem? fun k => ?_
 rw [Array.getElem?_modify, Array.getElem?_modify, Array.getElem?_modify]
 by_cases e : g = k
 ·subst e
  have h2 : w.heap[g]? = some (.cells C t (0, 0)) := h
  simp [h2]
 ·simp [e]
theorem set_six {w : World} {g : Nat} {t : TypeId} {C : Array Value} (h : Blk w g t C) (hC : C.size = 6) (a b c d e f : Value) :
  (((((w.setCell ⟨g, 0, none⟩ a).setCell ⟨g, 1, none⟩ b).setCell ⟨g, 2, none⟩ c).setCell ⟨g, 3, none⟩ d).setCell ⟨g, 4, none⟩ e).setCell ⟨g, 5, none⟩ f = w.setRow g #[a, b, c, d, e, f] := by
 obtain ⟨x0, x1, x2, x3, x4, x5, rfl⟩ : ∃ x0 x1 x2 x3 x4 x5, C = #[x0, x1, x2, x3, x4, x5] := by
  match C, hC with
  | ⟨[x0, x1, x2, x3, x4, x5]⟩, _ => exact ⟨x0, x1, x2, x3, x4, x5, rfl⟩
 rw [setCell_blk h, setCell_blk (h.setRow _), setRow_setRow h, setCell_blk (h.setRow _), setRow_setRow h, setCell_blk (h.setRow _), setRow_setRow h, setCell_blk (h.setRow _), setRow_setRow h, setCell_blk (h.setRow _), setRow_setRow h]
 rfl
theorem RowIn.lowH {w w' : World} {H : Nat} {B : Option Addr} {nb cb : Nat} {l : List F} (h : RowIn w B nb cb l) (hb : Below H w w') (lob : 0 < nb → ∀ b o, B = some ⟨b, o, none⟩ → b < H) : RowIn w' B nb cb l := by
 refine ⟨⟨h.row.len, h.row.2.1, fun hn => ?_⟩, h.le, h.max⟩
 obtain ⟨b, o, e, hl, hc⟩ := h.row.2.2 hn
 refine ⟨b, o, e, Nat.lt_of_lt_of_le hl hb.size, fun i hi => ?_⟩
 rw [World.cell?_of_block (a := ⟨b, o + i, none⟩) (hb.block b (lob (by omega) b o e))]
 exact hc i hi
theorem RSt.rout (h : RSt w H B nb cb X nx cx l A n c u M) {w' : World} {A' : Option Addr} {n' c' : Nat} {u' : Un} {b : Option Nat} (ho : ROut (Value.slice A n c).ownBlock b w w') (hown : w'.ownsRow H 5 1 (.slice A' n' c') n' (cs u'.out)) (hn : n' ≤ M) (ha : u'.at_ ≤ 8 * nb) :
  RSt w' H B nb cb X nx cx l A' n' c' u' M :=
 have hb := ho.below h.here (fun g hg => (h.own.lt g hg).1)
 ⟨h.brow.lowH hb h.lob, h.bits.lowH hb h.lox, hown, h.lob, h.lox, Nat.le_trans h.here ho.size, ⟨h.few.1, hn, h.few.2.2⟩, ha⟩
theorem RSt.below (h : RSt w H B nb cb X nx cx l A n c u M) {w' : World} {u' : Un} (hb : Below w.heap.size w w') (ha : u'.at_ ≤ 8 * nb) (ho : u'.out = u.out) : RSt w' H B nb cb X nx cx l A n c u' M :=
 h.rout (ROut.ofBelow hb) (by rw [ho]; exact own_below h.own hb) h.few.2.1 ha
theorem RSt.drewN (h : RSt w H B nb cb X nx cx l A n c u M) (q : Nat) : RSt (w.drewN q) H B nb cb X nx cx l A n c u M := ⟨h.brow.drewN q, h.bits.drewN q, h.own, h.lob, h.lox, h.here, h.few, h.at_le⟩
theorem below_setRow {B : Nat} {a w : World} (h : Below B a w) {g : Nat} (hg : B ≤ g) (D : Array Value) : Below B a (w.setRow g D) :=
 ⟨h.os, h.tape, h.output, by simpa [World.setRow] using h.size, fun k hk => (blk_setRow_other (by omega) D).trans (h.block k hk)⟩
theorem RSt.setRow (h : RSt w H B nb cb X nx cx l A n c u M) {g : Nat} (hg : H ≤ g) (hne : (Value.slice A n c).ownBlock ≠ some g) (D : Array Value) : RSt (w.setRow g D) H B nb cb X nx cx l A n c u M :=
 have hb := below_setRow (Below.refl H w) hg D
 ⟨h.brow.lowH hb h.lob, h.bits.lowH hb h.lox, own_blk h.own fun k hk => blk_setRow_other (fun e => hne (by rw [← e]; exact hk)) D, h.lob, h.lox, Nat.le_trans h.here hb.size, h.few, h.at_le⟩
theorem info_rst : (Tryz.prog.info? 80).map (·.size) = some 6 := by kernel_rfl
theorem load_st {w : World} {g : Nat} {C : Array Value} (h : Blk w g 80 C) (hC : C.size = 6) : Sem.run Tryz.prog (loadVar 80 ⟨g, 0, none⟩) w = .ok (.agg C) w :=
 run_loadVar_row w g _ _ _ (0, 0) _ h Tryz.underlying80 rfl (by rw [info_rst, hC])
theorem store_sV {w : World} {g : Nat} {C : Array Value} (h : Blk w g 80 C) (hC : C.size = 6) (B : Option Addr) (nb cb : Nat) (X : Option Addr) (nx cx : Nat) (at_ : Int) (A : Option Addr) (n c : Nat) (most E : Int) :
  Sem.run Tryz.prog (storeVar 80 ⟨g, 0, none⟩ (.agg #[.slice B nb cb, .slice X nx cx, .int .i64 at_, .slice A n c, .int .i64 most, .int .i64 E])) w = .ok () (w.setRow g #[.slice B nb cb, .slice X nx cx, .int .i64 at_, .slice A n c, .int .i64 most, .int .i64 E]) :=
 run_storeVar_row w g _ _ _ _ h (by rw [info_rst]; rfl) (by rw [hC]; rfl) (by simp [Value.oneCell'])
theorem Blk.alloc {w : World} {g : Nat} {t : TypeId} {C : Array Value} (h : Blk w g t C) (o : Obj) : Blk (w.alloc o) g t C := h.below h.lt ((Below.refl _ _).alloc (Nat.le_refl _) _)
theorem RSt.out_ (h : RSt w H B nb cb X nx cx l A n c u M) : u.out.length = n := own_len h.own
theorem rput_c (h : RSt w H B nb cb X nx cx l A n c u M) (hm : max most 0 = (M : Int)) (x : F) :
  Calls Tryz.prog 90 #[sV B nb cb X nx cx u.at_ A n c most 0, .int .u8 x.n] w fun e w' =>
   (putF M x u = .error 6 ∧ e = .returned (sV B nb cb X nx cx u.at_ A n c most 6) ∧ Below w.heap.size w w') ∨
   (∃ A' c', putF M x u = .ok ⟨u.at_, u.out ++ [x]⟩ ∧ e = .returned (sV B nb cb X nx cx u.at_ A' (n + 1) c' most 0) ∧ RSt w' H B nb cb X nx cx l A' (n + 1) c' ⟨u.at_, u.out ++ [x]⟩ M ∧ ROut (Value.slice A n c).ownBlock (Value.slice A' (n + 1) c').ownBlock w w') := by
 obtain ⟨i0, hi, hz0, hz1, hz2⟩ := info_parts info_u8
 have hout := h.out_
 have hf := h.few
 by_cases hn : n < M
 ·have hP : Hid (putF M x u = .ok ⟨u.at_, u.out ++ [x]⟩) := by unfold Hid putF; rw [hout, if_pos hn]
  have hge : ¬ most ≤ (n : Int) := by omega
  have HH := Lib.hid h
  have hhere := h.here
  have hale := h.at_le
  clear h hm hout
  unfold sV
  generalize u.at_ = at_ at *
  go_enter Tryz.func90, Tryz.ntmps90
  go_wp2_with (first
   | (at_builtin
      refine wpList_append_row i0 hi hz0 hz1 hz2 rfl _ _ rfl H (.slice A n c) n (cs u.out) rfl (((HH.out.own.alloc _).alloc _).alloc _) _ 1 1 [x] rfl (row_lit _ [x] 1 _ rfl (by simp) (by show 1 ≤ maxLen; decide) _ rfl 5) (by omega) (by simp; omega) ?_; intro v4 w4 hL4; obtain ⟨A4, c4, rfl, hown4, hg4, hnw4⟩ := hL4
      have k1 := Blk.kept (((Blk.new w 80 _).alloc _).alloc _) hg4 ⟨by simp; omega, fun e => by have := (HH.out.own.lt _ e).2; omega⟩
      have k2 := Blk.kept ((Blk.new (w.alloc (.cells _ 80)) 80 _).alloc _) hg4 ⟨by simp, fun e => by have := (HH.out.own.lt _ e).2; simp at this; omega⟩
      simp only [World.size_alloc] at k2 hg4 hnw4
      obtain ⟨⟨c0, c1, c2, c3, c4', c5⟩, f0, f1, f2, f3, f4, f5⟩ := k1.six
      obtain ⟨⟨d0, d1, d2, d3, d4, d5⟩, e0, e1, e2, e3, e4, e5⟩ := k2.six
      have K1 := Lib.hid k1
      have K2 := Lib.hid k2
      clear k1 k2))
  have K3 := K2.out.setOther (a := ⟨w.heap.size, 3, none⟩) (by simp) (.slice A4 (n + 1) c4)
  rw [set_six K3 rfl]
  obtain ⟨⟨z0, z1, z2, z3, z4, z5⟩, _⟩ := (K3.setRow #[.slice B nb cb, .slice X nx cx, .int .i64 at_, .slice A4 (n + 1) c4, .int .i64 most, .int .i64 0]).six
  refine bodyPost_ret (v := .agg #[.slice B nb cb, .slice X nx cx, .int .i64 at_, .slice A4 (n + 1) c4, .int .i64 most, .int .i64 0]) (by simp [results, Tryz.results90, go_sem, z0, z1, z2, z3, z4, z5]) rfl ?_
  have b3 : Below w.heap.size w (((w.alloc (.cells #[.slice B nb cb, .slice X nx cx, .int .i64 at_, .slice A n c, .int .i64 most, .int .i64 0] 80)).alloc (.cells #[.slice none 0 0, .slice none 0 0, .int .i64 0, .slice none 0 0, .int .i64 0, .int .i64 0] 80)).alloc (.cells #[.int .u8 x.n] 5)) :=
   (((Below.refl _ _).alloc (Nat.le_refl _) _).alloc (by simp) _).alloc (by simp; omega) _
  have ho := ((ROut.ofBelow (a := (Value.slice A n c).ownBlock) b3).trans (ROut.ofGrown hg4 (by simpa using hnw4)))
  have hne : ∀ g, (Value.slice A4 (n + 1) c4).ownBlock = some g → g ≠ w.heap.size ∧ g ≠ w.heap.size + 1 := fun g hg => by
   rcases hnw4 with e | e
   ·rw [e] at hg
    have := (HH.out.own.lt g hg).2
    omega
   ·have := e g hg
    omega
  have hO := (ho.setNew (g := w.heap.size) (Nat.le_refl _) 3 (.slice A4 (n + 1) c4)).setRow (g := w.heap.size + 1) (by omega) #[.slice B nb cb, .slice X nx cx, .int .i64 at_, .slice A4 (n + 1) c4, .int .i64 most, .int .i64 0]
  refine .inr ⟨hP.out, A4, c4, rfl, HH.out.rout hO ?_ (by omega) hale, hO⟩
  rw [cs_append]
  refine own_blk hown4 fun g hg => ?_
  obtain ⟨n1, n2⟩ := hne g hg
  rw [blk_setRow_other n2, Go.Deep.blk_setCell_other _ _ _ _ n1]
 ·have hP : Hid (putF M x u = .error 6) := by unfold Hid putF; rw [hout, if_neg hn]
  have hge : most ≤ (n : Int) := by omega
  clear h hm hout
  unfold sV
  generalize u.at_ = at_ at *
  go_enter Tryz.func90, Tryz.ntmps90
  go_wp2
  refine bodyPost_ret (v := .agg #[.slice B nb cb, .slice X nx cx, .int .i64 at_, .slice A n c, .int .i64 most, .int .i64 6]) (by simp [results, Tryz.results90, go_sem]) rfl ?_
  exact .inl ⟨hP.out, rfl, ((Below.refl _ _).alloc (Nat.le_refl _) _).alloc (by simp) _⟩
theorem rread_c (h : RSt w H B nb cb X nx cx l A n c u M) {L : Option Addr} {k ck g cg : Nat} {cl : List Int} (hL : IRow w L k .i64 cl) (hg : ∀ i, i < k → g < w.heap.size ∧ w.cell? ⟨g, i, none⟩ = some (.int .u32 ((codeN cl i : Nat) : Int))) (hok : TabOk cl k) :
  Calls Tryz.prog 92 #[sV B nb cb X nx cx u.at_ A n c most 0, .slice L k ck, .slice (some ⟨g, 0, none⟩) k cg] w fun e w' =>
   (∃ (z : Nat) (av v : Int), symF l cl u = .error z ∧ e = .returned (.tuple #[sV B nb cb X nx cx av A n c most z, .int .i64 v]) ∧ Below w.heap.size w w') ∨
   (∃ (s : Nat) (u' : Un), symF l cl u = .ok (s, u') ∧ u'.out = u.out ∧ s < k ∧ u'.at_ ≤ 8 * nb ∧ e = .returned (.tuple #[sV B nb cb X nx cx u'.at_ A n c most 0, .int .i64 s]) ∧ Below w.heap.size w w') := by
 have hxl := h.bits.row.len
 rw [bc_length, bitsOf_length, h.brow.row.len] at hxl
 have hf := h.few
 have hat := h.at_le
 have hlen := h.brow.row.len
 have hfun : gbit (bitsOf l) = rb l := funext fun i => gbit_bitsOf l i
 have HC : Hid (∀ W, Below w.heap.size w W → Calls Tryz.prog 137 #[.slice L k ck, .slice (some ⟨g, 0, none⟩) k cg, .slice X nx cx, .int .i64 u.at_] W fun e w' => ∃ s m er : Nat, e = .returned (.tuple #[.int .i64 s, .int .i64 m, .int .i64 er]) ∧ rdF cl (rb l) (8 * l.length) u.at_ = (s, m, er) ∧ u.at_ + m ≤ 8 * l.length ∧ (er = 0 → s < k) ∧ Below W.heap.size W w') := fun W hb => by
  refine (RefRead_c L X ck cx cg (bitsOf l) W (hL.below hb) (fun i hi => ⟨Nat.lt_of_lt_of_le (hg i hi).1 hb.size, ?_⟩) ⟨h.bits.row.below hb, h.bits.le, h.bits.max⟩ (by omega) (a := u.at_) (by omega) hok).mono ?_
  ·rw [World.cell?_of_block (a := ⟨g, i, none⟩) (hb.block g (hg i hi).1)]
   exact (hg i hi).2
  ·rintro e w' ⟨s, m, er, rfl, hr, hbw⟩
   rw [hfun, ← hxl] at hr
   have he := rdF_eq hok.right (by rw [hok.len]; exact hok.fit) (by omega) hr
   rw [hlen]
   refine ⟨s, m, er, rfl, he, ?_, fun h0 => ?_, hbw⟩
   ·rcases hr.2 with ⟨_, _, h3, _⟩ | ⟨_, _, _, h3, _⟩ | ⟨_, _, _, h3, _⟩ <;> omega
   ·rcases hr.2 with ⟨_, _, _, h4, _⟩ | ⟨h3, _⟩ | ⟨h3, _⟩
    ·rw [← hok.len]; exact h4
    ·omega
    ·omega
 obtain ⟨a, ha⟩ : ∃ a, a = u.at_ := ⟨_, rfl⟩
 rw [← ha] at hat ⊢ HC
 have HA := Lib.hid ha
 have HLEN := Lib.hid hlen
 unfold sV
 clear h hL hg hxl hfun ha hlen
 go_enter Tryz.func92, Tryz.ntmps92
 go_wp2_with (first
  | (go_at_call 137; refine (HC.out _ (((Below.refl _ _).alloc (Nat.le_refl _) _).alloc (by simp) _)).mono ?_
     rintro e w1 ⟨s, m, er, rfl, hR, hle, hsk, hbw⟩
     have k1 := ((Blk.new w 80 _).alloc _).below (by simp; omega) hbw
     have k2 := (Blk.new (w.alloc (.cells _ 80)) 80 _).below (by simp) hbw
     simp only [World.size_alloc] at k2
     obtain ⟨⟨c0, c1, c2, c3, c4', c5⟩, f0, f1, f2, f3, f4, f5⟩ := k1.six
     obtain ⟨⟨d0, d1, d2, d3, d4, d5⟩, e0, e1, e2, e3, e4, e5⟩ := k2.six
     have K1 := Lib.hid k1
     have K2 := Lib.hid k2
     have HR := Lib.hid hR
     have HSK := Lib.hid hsk
     have HBW := Lib.hid hbw
     have hle2 : a + m ≤ 100000 := by have := HLEN.out; omega
     have HLE := Lib.hid hle
     clear k1 k2 hR hsk hbw hle))
 have K3 := (K2.out.setOther (a := ⟨w.heap.size, 5, none⟩) (by simp) (.int .i64 er)).setOther (a := ⟨w.heap.size, 2, none⟩) (by simp) (.int .i64 ((a : Int) + (m : Int)))
 rw [set_six K3 rfl]
 obtain ⟨⟨z0, z1, z2, z3, z4, z5⟩, _⟩ := (K3.setRow #[.slice B nb cb, .slice X nx cx, .int .i64 ((a : Int) + (m : Int)), .slice A n c, .int .i64 most, .int .i64 er]).six
 refine bodyPost_ret (v := .tuple #[.agg #[.slice B nb cb, .slice X nx cx, .int .i64 ((a : Int) + (m : Int)), .slice A n c, .int .i64 most, .int .i64 er], .int .i64 s]) (by simp [results, Tryz.results92, go_sem, z0, z1, z2, z3, z4, z5]) rfl ?_
 have b3 := ((((Below.refl w.heap.size w).alloc (Nat.le_refl _) (.cells #[.slice B nb cb, .slice X nx cx, .int .i64 a, .slice A n c, .int .i64 most, .int .i64 0] 80)).alloc (by simp) (.cells #[.slice none 0 0, .slice none 0 0, .int .i64 0, .slice none 0 0, .int .i64 0, .int .i64 0] 80))).trans (HBW.out.mono (by simp; omega))
 have hB := ((((ROut.ofBelow (a := none) b3).setNew (g := w.heap.size) (Nat.le_refl _) 5 (.int .i64 er)).setNew (g := w.heap.size) (Nat.le_refl _) 2 (.int .i64 ((a : Int) + (m : Int)))).setRow (g := w.heap.size + 1) (by omega) #[.slice B nb cb, .slice X nx cx, .int .i64 ((a : Int) + (m : Int)), .slice A n c, .int .i64 most, .int .i64 er]).below (Nat.le_refl _) (fun g hg => by cases hg)
 by_cases h0 : er = 0
 ·subst h0
  refine .inr ⟨s, ⟨a + m, u.out⟩, ?_, rfl, HSK.out rfl, by have := HLE.out; have := HLEN.out; show a + m ≤ _; omega, by simp, hB⟩
  unfold symF
  rw [← HA.out, HR.out, if_pos rfl]
 ·refine .inl ⟨er, _, _, ?_, rfl, hB⟩
  unfold symF
  rw [← HA.out, HR.out, if_neg h0]
theorem wpList_ld {P : Program} {w : World} {ops : Array Oper} {rest : List Oper} {a : Act} {Q : Exit → Act → World → Prop} {dst : Option Tmp} {p : Operand} {T ty : TypeId} {pos : String} {aft : Array Edge} {g : Nat} {v : Value}
  (hrun : Sem.run P (loadVar T ⟨g, 0, none⟩) w = .ok v w) (hp : a.eval p = .pointer (some ⟨g, 0, none⟩)) (hK : wpList P ops Q rest (a.put dst v) w) :
  wpList P ops Q ({ dst := dst, op := Op.load T p, type := ty, pos := pos, after := aft, guard := none } :: rest) a w := wpList_load_var g v hp hrun hK
theorem wpList_st {P : Program} {w : World} {ops : Array Oper} {rest : List Oper} {a : Act} {Q : Exit → Act → World → Prop} {p x : Operand} {T ty : TypeId} {pos : String} {aft : Array Edge} {g : Nat} {v : Value} {w' : World}
  (hrun : Sem.run P (storeVar T ⟨g, 0, none⟩ v) w = .ok () w') (hp : a.eval p = .pointer (some ⟨g, 0, none⟩)) (hx : a.eval x = v) (hK : wpList P ops Q rest a w') :
  wpList P ops Q ({ dst := none, op := Op.store T p x, type := ty, pos := pos, after := aft, guard := none } :: rest) a w := wpList_store_var g v w' hp hx hrun hK
def RWent (w : World) (H : Nat) (B : Option Addr) (nb cb : Nat) (X : Option Addr) (nx cx : Nat) (l : List F) (A : Option Addr) (n c : Nat) (M : Nat) (most : Int) (R : Except Nat Un) (e : Ending) (w' : World) : Prop :=
 (∃ (z : Nat) (av : Int) (A' : Option Addr) (n' c' : Nat) (b : Option Nat), R = .error z ∧ e = .returned (sV B nb cb X nx cx av A' n' c' most z) ∧ ROut (Value.slice A n c).ownBlock b w w') ∨
 (∃ (A' : Option Addr) (n' c' : Nat) (u' : Un), R = .ok u' ∧ e = .returned (sV B nb cb X nx cx u'.at_ A' n' c' most 0) ∧ RSt w' H B nb cb X nx cx l A' n' c' u' M ∧ ROut (Value.slice A n c).ownBlock (Value.slice A' n' c').ownBlock w w')
def zC : Array Value := #[.slice none 0 0, .slice none 0 0, .int .i64 0, .slice none 0 0, .int .i64 0, .int .i64 0]
theorem two_box (w : World) (a b c d e f : Value) :
  Blk ((w.alloc (.cells #[a, b, c, d, e, f] 80)).alloc (.cells #[.slice none 0 0, .slice none 0 0, .int .i64 0, .slice none 0 0, .int .i64 0, .int .i64 0] 80)) w.heap.size 80 #[a, b, c, d, e, f] ∧
  Blk ((w.alloc (.cells #[a, b, c, d, e, f] 80)).alloc (.cells #[.slice none 0 0, .slice none 0 0, .int .i64 0, .slice none 0 0, .int .i64 0, .int .i64 0] 80)) (w.heap.size + 1) 80 zC ∧
  Below w.heap.size w ((w.alloc (.cells #[a, b, c, d, e, f] 80)).alloc (.cells #[.slice none 0 0, .slice none 0 0, .int .i64 0, .slice none 0 0, .int .i64 0, .int .i64 0] 80)) ∧
  ((w.alloc (.cells #[a, b, c, d, e, f] 80)).alloc (.cells #[.slice none 0 0, .slice none 0 0, .int .i64 0, .slice none 0 0, .int .i64 0, .int .i64 0] 80)).heap.size = w.heap.size + 2 := by
 have k2 := Blk.new (w.alloc (.cells #[a, b, c, d, e, f] 80)) 80 zC
 simp only [World.size_alloc] at k2
 exact ⟨(Blk.new w _ _).alloc _, k2, ((Below.refl _ _).alloc (Nat.le_refl _) _).alloc (by simp) _, by simp⟩
theorem ROut.two {a b : Option Nat} {w w' : World} (h : ROut a b w w') {p : Nat} (hp : a ≠ some p) (hq : p < w.heap.size) : b ≠ some p := by
 rcases h.nw with e | e
 ·rw [e]; exact hp
 ·intro e2; have := e p e2; omega
set_option maxHeartbeats 4000000 in
theorem rstored_c (h : RSt w H B nb cb X nx cx l A n c u M) (hm : max most 0 = (M : Int)) :
  Calls Tryz.prog 43 #[sV B nb cb X nx cx u.at_ A n c most 0] w fun e w' => RWent w H B nb cb X nx cx l A n c M most (stoF l M u) e w' := by
 obtain ⟨a, ha⟩ : ∃ a, a = (u.at_ + 7) / 8 := ⟨_, rfl⟩
 have hS := stoF_eq l M ha
 have hf := h.few
 have hat := h.at_le
 have hout := h.out_
 have hlen := h.brow.row.len
 have hcb := h.brow.le
 have hcm := h.brow.max
 unfold maxLen at hcm
 obtain ⟨t1, t2, t3, t4⟩ := two_box w (.slice B nb cb) (.slice X nx cx) (.int .i64 u.at_) (.slice A n c) (.int .i64 most) (.int .i64 0)
 obtain ⟨av, hav⟩ : ∃ av, av = u.at_ := ⟨_, rfl⟩
 have ha2 : ((av : Int) + 7).tdiv 8 = (a : Int) := by rw [Int.tdiv_eq_ediv_of_nonneg (by omega)]; omega
 rw [← hav] at t1 t2 t3 t4
 have hav8 : av ≤ 80000 := by omega
 have hab : a ≤ 10001 := by omega
 have HA := Lib.hid ha
 have HLEN := Lib.hid hlen
 have HOUT := Lib.hid hout
 have HH := Lib.hid h
 have HS := Lib.hid hS
 have HM := Lib.hid hm
 have HAV := Lib.hid hav
 unfold sV
 rw [← hav]
 clear ha hlen hout
 by_cases e1 : nb < a + 4
 ·have HR : Hid (stoF l M u = .error 20) := by unfold Hid; rw [hS, if_pos (by rw [HLEN.out]; exact e1)]
  clear h hS hm hav t1 t2 t4
  go_enter Tryz.func43, Tryz.ntmps43
  go_wp2
  refine bodyPost_ret (v := .agg #[.slice B nb cb, .slice X nx cx, .int .i64 av, .slice A n c, .int .i64 most, .int .i64 20]) (by simp [results, Tryz.results43, go_sem]) rfl ?_
  exact .inl ⟨20, _, _, _, _, _, HR.out, rfl, ROut.ofBelow (((Below.refl _ _).alloc (Nat.le_refl _) _).alloc (by simp) _)⟩
 ·obtain ⟨bb, bo, rfl, _, _⟩ := h.brow.row.at_ (k := 0) (by omega)
  have hlt := le2_lt l a
  have hlt3 := le2_lt l (a + 2)
  have hg2 := getL2 l a (by rw [HLEN.out]; omega)
  have hg3 := getL2 l (a + 2) (by rw [HLEN.out]; omega)
  obtain ⟨s, hs⟩ : ∃ s, s = le2 l a := ⟨_, rfl⟩
  obtain ⟨t, ht⟩ : ∃ t, t = le2 l (a + 2) := ⟨_, rfl⟩
  rw [← hs] at hlt hg2
  rw [← ht] at hlt3 hg3
  have hs1 := (h.brow.slice (a := a) (M := a + 2) (by omega) (by omega)).2 (by omega)
  have hs2 := (h.brow.slice (a := a + 2) (M := a + 4) (by omega) (by omega)).2 (by omega)
  rw [show a + 2 - a = 2 by omega, show (some (⟨bb, bo, none⟩ : Addr)).map (fun x => x.add a) = some ⟨bb, bo + a, none⟩ by simp [Addr.add]] at hs1
  rw [show a + 4 - (a + 2) = 2 by omega, show (some (⟨bb, bo, none⟩ : Addr)).map (fun x => x.add (a + 2)) = some ⟨bb, bo + (a + 2), none⟩ by simp [Addr.add]] at hs2
  have HG1 : Hid (∀ W, Below w.heap.size w W → Calls Tryz.prog 89 #[.slice (some ⟨bb, bo + a, none⟩) 2 (cb - a)] W fun e w' => e = .returned (.int .u64 s) ∧ W = w') := fun W hb => by
   have := RefGet_c _ 2 (cb - a) _ W (hs1.row.below hb)
   rwa [hg2] at this
  have HG2 : Hid (∀ W, Below w.heap.size w W → Calls Tryz.prog 89 #[.slice (some ⟨bb, bo + (a + 2), none⟩) 2 (cb - (a + 2))] W fun e w' => e = .returned (.int .u64 t) ∧ W = w') := fun W hb => by
   have := RefGet_c _ 2 (cb - (a + 2)) _ W (hs2.row.below hb)
   rwa [hg3] at this
  have HT : Hid (stoF l M u = (if t ≠ 65535 - s then .error 33 else if M < n + s then (if nb < a + 4 + (M - n + 1) then .error 20 else .error 6)
        else if nb < a + 4 + s then .error 20 else .ok ⟨8 * (a + 4 + s), u.out ++ (l.drop (a + 4)).take s⟩)) := by
   unfold Hid
   rw [hS, HLEN.out, if_neg (by omega), ← ht, ← hs, HOUT.out]
  have hca : ¬ cb = a := by omega
  have hca2 : ¬ cb = a + 2 := by omega
  have hcb2 : (a : Int) + 2 ≤ (cb : Int) := by omega
  have hcb4 : (a : Int) + 4 ≤ (cb : Int) := by omega
  have T1 := Lib.hid t1
  have T2 := Lib.hid t2
  have T3 := Lib.hid t3
  have T4 := Lib.hid t4
  clear h hS hm hav t1 t2 t3 t4 hg2 hg3 hs ht hs1 hs2
  go_enter Tryz.func43, Tryz.ntmps43
  go_wp2_with fail
  refine (HG1.out _ T3.out).mono ?_
  rintro e w' ⟨rfl, rfl⟩
  go_wp2_with fail
  refine (HG2.out _ T3.out).mono ?_
  rintro e w' ⟨rfl, rfl⟩
  by_cases e2 : t ≠ 65535 - s
  ·have HR : Hid (stoF l M u = .error 33) := by unfold Hid; rw [HT.out, if_pos e2]
   have hne : ((t : Int) != 65535 - (s : Int)) = true := by rw [bne_iff_ne]; omega
   clear e2
   go_wp2
   refine bodyPost_ret (v := .agg #[.slice (some ⟨bb, bo, none⟩) nb cb, .slice X nx cx, .int .i64 av, .slice A n c, .int .i64 most, .int .i64 33]) (by simp [results, Tryz.results43, go_sem]) rfl ?_
   exact .inl ⟨33, _, _, _, _, _, HR.out, rfl, ROut.ofBelow (((Below.refl _ _).alloc (Nat.le_refl _) _).alloc (by simp) _)⟩
  ·have hne : ((t : Int) != 65535 - (s : Int)) = false := by rw [bne_eq_false_iff_eq]; omega
   have HT2 : Hid (stoF l M u = (if M < n + s then (if nb < a + 4 + (M - n + 1) then .error 20 else .error 6)
     else if nb < a + 4 + s then .error 20 else .ok ⟨8 * (a + 4 + s), u.out ++ (l.drop (a + 4)).take s⟩)) := by unfold Hid; rw [HT.out, if_neg e2]
   clear e2
   go_wp2
   generalize (w.alloc (.cells #[.slice (some ⟨bb, bo, none⟩) nb cb, .slice X nx cx, .int .i64 av, .slice A n c, .int .i64 most, .int .i64 0] 80)).alloc (.cells #[.slice none 0 0, .slice none 0 0, .int .i64 0, .slice none 0 0, .int .i64 0, .int .i64 0] 80) = W0 at T1 T2 T3 T4 ⊢
   have hU0 := HH.out.below (u' := ⟨u.at_, u.out ++ (l.drop (a + 4)).take 0⟩) T3.out HH.out.at_le (by simp)
   have HU0 := Lib.hid hU0
   clear hU0
   go_loopw [3, 5] (fun kv iv wr => ∃ (i k n' c' : Nat) (A' : Option Addr), i ≤ s ∧ iv = .int .i64 i ∧ kv = .int .i64 k ∧ Hid (k = a + 4 + i) ∧ Hid (n' = n + i) ∧ k ≤ nb ∧ n' ≤ M ∧ Hid (Blk wr w.heap.size 80 #[.slice (some ⟨bb, bo, none⟩) nb cb, .slice X nx cx, .int .i64 av, .slice A' n' c', .int .i64 most, .int .i64 0]) ∧ Hid (Blk wr (w.heap.size + 1) 80 zC) ∧ Hid (RSt wr H (some ⟨bb, bo, none⟩) nb cb X nx cx l A' n' c' ⟨u.at_, u.out ++ (l.drop (a + 4)).take i⟩ M) ∧ Hid (ROut (Value.slice A n c).ownBlock (Value.slice A' n' c').ownBlock w wr) ∧ Hid ((Value.slice A' n' c').ownBlock ≠ some w.heap.size ∧ (Value.slice A' n' c').ownBlock ≠ some (w.heap.size + 1))) (fun _ iv _ => s - (intOf iv).toNat)
   case atStart => exact ⟨0, a + 4, n, c, A, by omega, rfl, val_i64 (by omega), by unfold Hid; omega, by unfold Hid; omega, by omega, by omega, T1, T2, HU0, ROut.ofBelow T3.out, fun e => by have := (HH.out.own.lt _ e).2; omega, fun e => by have := (HH.out.own.lt _ e).2; omega⟩
   case round =>
    obtain ⟨i, k, n', c', A', his, rfl, rfl, hk, hn', hknb, hnM, hK1, hK2, hU, hO, HNP⟩ := hrel
    obtain ⟨⟨c0, c1, c2, c3, c4', c5⟩, f0, f1, f2, f3, f4, f5⟩ := hK1.out.six
    obtain ⟨⟨d0, d1, d2, d3, d4, d5⟩, e0, e1', e2, e3, e4, e5⟩ := hK2.out.six
    by_cases hlt : i < s
    ·have hlt2 : (i : Int) < (s : Int) := by omega
     by_cases hkl : nb ≤ k
     ·have HR : Hid (stoF l M u = .error 20) := by
       unfold Hid
       have h1 := hk.out
       have h2 := hn'.out
       rw [HT2.out]
       by_cases e9 : M < n + s
       ·rw [if_pos e9, if_pos (by omega)]
       ·rw [if_neg e9, if_pos (by omega)]
      have hkl2 : (nb : Int) ≤ (k : Int) := by omega
      go_wp2
      have K3 := hK2.out.setOther (a := ⟨w.heap.size, 5, none⟩) (by simp) (.int .i64 20)
      rw [set_six K3 rfl]
      obtain ⟨⟨z0, z1, z2, z3, z4, z5⟩, _⟩ := (K3.setRow #[.slice (some ⟨bb, bo, none⟩) nb cb, .slice X nx cx, .int .i64 av, .slice A' n' c', .int .i64 most, .int .i64 20]).six
      refine bodyPost_ret (v := .agg #[.slice (some ⟨bb, bo, none⟩) nb cb, .slice X nx cx, .int .i64 av, .slice A' n' c', .int .i64 most, .int .i64 20]) (by simp [results, Tryz.results43, go_sem, z0, z1, z2, z3, z4, z5]) rfl ?_
      exact .inl ⟨20, _, _, _, _, _, HR.out, rfl, (hO.out.setNew (Nat.le_refl _) _ _).setRow (by omega) _⟩
     ·obtain ⟨b1, o1, hB1, _, q1⟩ := hU.out.brow.row.at_ (k := k) (by omega)
      have hkn : (k : Int) < (nb : Int) := by omega
      obtain ⟨y, hy⟩ : ∃ y, y = gt l k := ⟨_, rfl⟩
      rw [← hy] at q1
      have HP := Lib.hid (rput_c (hU.out.drewN 1) HM.out y)
      unfold sV at HP
      have e8 : (({ at_ := u.at_, out := u.out ++ (l.drop (a + 4)).take i } : Un).at_ : Int) = (av : Int) := by rw [HAV.out]
      rw [e8] at HP
      have hnx : Hid (u.out ++ (l.drop (a + 4)).take (i + 1) = (u.out ++ (l.drop (a + 4)).take i) ++ [y]) := by
       unfold Hid
       have h1 := hk.out
       rw [take_succ_gt (by rw [List.length_drop, HLEN.out]; omega), gt_drop, hy, h1, List.append_assoc]
      have HY := Lib.hid hy
      clear e8 hy
      injection hB1 with hB1
      injection hB1 with hB1 hB2 _
      subst hB1 hB2
      go_wp2
      go_still_tail 6, (by kernel_rfl)
      go_wp2_with fail
      refine HP.out.mono ?_
      rintro e w2 hW
      rcases hW with ⟨g1, rfl, hb⟩ | ⟨A2, cp2, g1, rfl, hU2, hO2⟩
      ·have HR : Hid (stoF l M u = .error 6) := by
        unfold Hid
        have h1 := hk.out
        have h2 := hn'.out
        have h3 : ¬ n' < M := fun h => by
         unfold putF at g1
         rw [if_pos (by show (u.out ++ (l.drop (a + 4)).take i).length < M; have h4 := hU.out.out_; have h5 : (u.out ++ (l.drop (a + 4)).take i).length = n' := h4; omega)] at g1
         cases g1
        rw [HT2.out, if_pos (by omega), if_neg (by omega)]
       have k1 := Blk.below (w := wr.drewN 1) hK1.out hK1.out.lt hb
       have k2 := Blk.below (w := wr.drewN 1) hK2.out hK2.out.lt hb
       clear c0 c1 c2 c3 c4' c5 f0 f1 f2 f3 f4 f5 d0 d1 d2 d3 d4 d5 e0 e1' e2 e3 e4 e5
       obtain ⟨⟨c0, c1, c2, c3, c4', c5⟩, f0, f1, f2, f3, f4, f5⟩ := k1.six
       obtain ⟨⟨d0, d1, d2, d3, d4, d5⟩, e0, e1', e2, e3, e4, e5⟩ := k2.six
       have K1 := Lib.hid k1
       have K2 := Lib.hid k2
       have HO2 := Lib.hid ((hO.out.drewN 1).trans (ROut.ofBelow hb))
       clear g1 hb k1 k2
       go_wp2
       rw [set_six K1.out rfl]
       have K3 : Blk (w2.setRow w.heap.size #[.slice (some ⟨bb, bo, none⟩) nb cb, .slice X nx cx, .int .i64 av, .slice A' n' c', .int .i64 most, .int .i64 6]) (w.heap.size + 1) 80 zC := (blk_setRow_other (by simp) _).trans K2.out
       rw [set_six K3 rfl]
       obtain ⟨⟨z0, z1, z2, z3, z4, z5⟩, _⟩ := (K3.setRow #[.slice (some ⟨bb, bo, none⟩) nb cb, .slice X nx cx, .int .i64 av, .slice A' n' c', .int .i64 most, .int .i64 6]).six
       refine bodyPost_ret (v := .agg #[.slice (some ⟨bb, bo, none⟩) nb cb, .slice X nx cx, .int .i64 av, .slice A' n' c', .int .i64 most, .int .i64 6]) (by simp [results, Tryz.results43, go_sem, z0, z1, z2, z3, z4, z5]) rfl ?_
       exact .inl ⟨6, _, _, _, _, _, HR.out, rfl, (HO2.out.setRow (Nat.le_refl _) _).setRow (by omega) _⟩
      ·have k1 : Blk w2 w.heap.size _ _ := hO2.blk (w := wr.drewN 1) hK1.out HNP.out.1
       have k2 : Blk w2 (w.heap.size + 1) _ _ := hO2.blk (w := wr.drewN 1) hK2.out HNP.out.2
       have hnp2 : (Value.slice A2 (n' + 1) cp2).ownBlock ≠ some w.heap.size ∧ (Value.slice A2 (n' + 1) cp2).ownBlock ≠ some (w.heap.size + 1) :=
        ⟨hO2.two HNP.out.1 hK1.out.lt, hO2.two HNP.out.2 hK2.out.lt⟩
       clear c0 c1 c2 c3 c4' c5 f0 f1 f2 f3 f4 f5 d0 d1 d2 d3 d4 d5 e0 e1' e2 e3 e4 e5
       obtain ⟨⟨c0, c1, c2, c3, c4', c5⟩, f0, f1, f2, f3, f4, f5⟩ := k1.six
       have hHw : H ≤ w.heap.size := HH.out.here
       have K1 := Lib.hid (k1.setRow #[.slice (some ⟨bb, bo, none⟩) nb cb, .slice X nx cx, .int .i64 av, .slice A2 (n' + 1) cp2, .int .i64 most, .int .i64 0])
       have K2 : Hid (Blk (w2.setRow w.heap.size #[.slice (some ⟨bb, bo, none⟩) nb cb, .slice X nx cx, .int .i64 av, .slice A2 (n' + 1) cp2, .int .i64 most, .int .i64 0]) (w.heap.size + 1) 80 zC) := (blk_setRow_other (by simp) _).trans k2
       have HO3 := Lib.hid (((hO.out.drewN 1).trans hO2).setRow (g := w.heap.size) (Nat.le_refl _) #[.slice (some ⟨bb, bo, none⟩) nb cb, .slice X nx cx, .int .i64 av, .slice A2 (n' + 1) cp2, .int .i64 most, .int .i64 0])
       have hU3 := hU2.setRow (g := w.heap.size) hHw hnp2.1 #[.slice (some ⟨bb, bo, none⟩) nb cb, .slice X nx cx, .int .i64 av, .slice A2 (n' + 1) cp2, .int .i64 most, .int .i64 0]
       rw [show (⟨({ at_ := u.at_, out := u.out ++ (l.drop (a + 4)).take i } : Un).at_, ({ at_ := u.at_, out := u.out ++ (l.drop (a + 4)).take i } : Un).out ++ [y]⟩ : Un) = ⟨u.at_, u.out ++ (l.drop (a + 4)).take (i + 1)⟩ by rw [hnx.out]] at hU3
       have HU3 := Lib.hid hU3
       have hn1M : n' + 1 ≤ M := hU2.few.2.1
       have HNP2 := Lib.hid hnp2
       have hk2 : Hid (k + 1 = a + 4 + (i + 1)) := by have := hk.out; unfold Hid; omega
       have hn2' : Hid (n' + 1 = n + (i + 1)) := by have := hn'.out; unfold Hid; omega
       have KB := Lib.hid k1
       clear g1 hO2 hU2 hU3 k1 k2 hnp2
       go_wp2
       go_roundw
       case rel =>
        rw [set_six KB.out rfl]
        exact ⟨i + 1, k + 1, n' + 1, cp2, A2, by omega, by go_num, by go_num, hk2, hn2', by omega, by omega, K1, K2, HU3, HO3, HNP2⟩
       case measure => simp [intOf]; omega
    ·obtain rfl : i = s := by omega
     have h1 := hk.out
     have h2 := hn'.out
     have HR : Hid (stoF l M u = .ok ⟨8 * k, u.out ++ (l.drop (a + 4)).take i⟩) := by
      unfold Hid
      rw [HT2.out, if_neg (by omega), if_neg (by omega), h1]
     clear h1 h2
     go_wp2
     have K3 := hK2.out.setOther (a := ⟨w.heap.size, 2, none⟩) (by simp) (.int .i64 (8 * (k : Int)))
     rw [set_six K3 rfl]
     obtain ⟨⟨z0, z1, z2, z3, z4, z5⟩, _⟩ := (K3.setRow #[.slice (some ⟨bb, bo, none⟩) nb cb, .slice X nx cx, .int .i64 (8 * (k : Int)), .slice A' n' c', .int .i64 most, .int .i64 0]).six
     refine bodyPost_ret (v := .agg #[.slice (some ⟨bb, bo, none⟩) nb cb, .slice X nx cx, .int .i64 (8 * (k : Int)), .slice A' n' c', .int .i64 most, .int .i64 0]) (by simp [results, Tryz.results43, go_sem, z0, z1, z2, z3, z4, z5]) rfl ?_
     refine .inr ⟨A', n', c', _, HR.out, by unfold sV; simp, ?_, (hO.out.setNew (Nat.le_refl _) _ _).setRow (by omega) _⟩
     have hU3 := hU.out
     rw [setCell_blk hK1.out]
     have hHw : H ≤ w.heap.size := HH.out.here
     have hU4 := (hU3.setRow (g := w.heap.size) hHw HNP.out.1 (#[.slice (some ⟨bb, bo, none⟩) nb cb, .slice X nx cx, .int .i64 av, .slice A' n' c', .int .i64 most, .int .i64 0].setIfInBounds 2 (.int .i64 (8 * (k : Int))))).setRow (g := w.heap.size + 1) (by omega) HNP.out.2 #[.slice (some ⟨bb, bo, none⟩) nb cb, .slice X nx cx, .int .i64 (8 * (k : Int)), .slice A' n' c', .int .i64 most, .int .i64 0]
     exact ⟨hU4.brow, hU4.bits, hU4.own, hU4.lob, hU4.lox, hU4.here, hU4.few, by show 8 * k ≤ 8 * nb; omega⟩
end
end
section
open Go.RowKit
set_option maxRecDepth 100000
set_option linter.unusedVariables false
theorem IRow.rout {w w' : World} {n : Nat} {a b : Option Nat} {L : Option Addr} {k : IntKind} {l : List Int} (h : IRow w L n k l) (ho : ROut a b w w') (hL : ∀ b o, L = some ⟨b, o, none⟩ → a ≠ some b) : IRow w' L n k l := by
 refine ⟨h.len, h.max, fun hn => ?_, h.wf⟩
 obtain ⟨b', o, e, hl, hc⟩ := h.cells hn
 refine ⟨b', o, e, Nat.lt_of_lt_of_le hl ho.size, fun i hi => ?_⟩
 rw [World.cell?_of_block (a := ⟨b', o + i, none⟩) (ho.block b' hl (hL b' o e))]
 exact hc i hi
structure RTb (w : World) (a : Option Nat) (L : Option Addr) (k g : Nat) (cl : List Int) : Prop where
 row : IRow w L k .i64 cl
 codes : ∀ i, i < k → g < w.heap.size ∧ w.cell? ⟨g, i, none⟩ = some (.int .u32 ((codeN cl i : Nat) : Int))
 ok : TabOk cl k
 apr : ∀ b o, L = some ⟨b, o, none⟩ → b < w.heap.size ∧ a ≠ some b
 apg : g < w.heap.size ∧ a ≠ some g
theorem RTb.rout {w w' : World} {a b : Option Nat} {L : Option Addr} {k g : Nat} {cl : List Int} (h : RTb w a L k g cl) (ho : ROut a b w w') : RTb w' b L k g cl :=
 ⟨h.row.rout ho fun b o e => (h.apr b o e).2, fun i hi => ⟨Nat.lt_of_lt_of_le h.apg.1 ho.size, by
  rw [World.cell?_of_block (a := ⟨g, i, none⟩) (ho.block g h.apg.1 h.apg.2)]
  exact (h.codes i hi).2⟩, h.ok, fun b' o e => ⟨Nat.lt_of_lt_of_le (h.apr b' o e).1 ho.size, ho.two (h.apr b' o e).2 (h.apr b' o e).1⟩, Nat.lt_of_lt_of_le h.apg.1 ho.size, ho.two h.apg.2 h.apg.1⟩
structure Bx (w : World) (H : Nat) (B : Option Addr) (nb cb : Nat) (X : Option Addr) (nx cx : Nat) (l : List F) (M : Nat) (most : Int) (a0 : Option Nat) (wr : World) (A : Option Addr) (n c : Nat) (u : Un) (av E : Int) : Prop where
 k1 : Blk wr w.heap.size 80 #[.slice B nb cb, .slice X nx cx, .int .i64 av, .slice A n c, .int .i64 most, .int .i64 E]
 k2 : Blk wr (w.heap.size + 1) 80 zC
 st : RSt wr H B nb cb X nx cx l A n c u M
 out : ROut a0 (Value.slice A n c).ownBlock w wr
 np : (Value.slice A n c).ownBlock ≠ some w.heap.size ∧ (Value.slice A n c).ownBlock ≠ some (w.heap.size + 1)
 hH : H ≤ w.heap.size
section
variable {w : World} {H : Nat} {B : Option Addr} {nb cb : Nat} {X : Option Addr} {nx cx : Nat} {l : List F} {A : Option Addr} {n c : Nat} {u : Un} {M : Nat} {most : Int}
theorem Bx.start (h : RSt w H B nb cb X nx cx l A n c u M) (av E : Int) : Bx w H B nb cb X nx cx l M most (Value.slice A n c).ownBlock ((w.alloc (.cells #[.slice B nb cb, .slice X nx cx, .int .i64 av, .slice A n c, .int .i64 most, .int .i64 E] 80)).alloc (.cells #[.slice none 0 0, .slice none 0 0, .int .i64 0, .slice none 0 0, .int .i64 0, .int .i64 0] 80)) A n c u av E := by
 obtain ⟨t1, t2, t3, _⟩ := two_box w (.slice B nb cb) (.slice X nx cx) (.int .i64 av) (.slice A n c) (.int .i64 most) (.int .i64 E)
 exact ⟨t1, t2, h.below t3 h.at_le rfl, ROut.ofBelow t3, ⟨fun e => by have := (h.own.lt _ e).2; omega, fun e => by have := (h.own.lt _ e).2; omega⟩, h.here⟩
variable {a0 : Option Nat} {wr w' : World} {av E : Int}
theorem Bx.below (h : Bx w H B nb cb X nx cx l M most a0 wr A n c u av E) (hb : Below wr.heap.size wr w') : Bx w H B nb cb X nx cx l M most a0 w' A n c u av E :=
 ⟨h.k1.below h.k1.lt hb, h.k2.below h.k2.lt hb, h.st.below hb h.st.at_le rfl, h.out.trans (ROut.ofBelow hb), h.np, h.hH⟩
theorem Bx.drewN (h : Bx w H B nb cb X nx cx l M most a0 wr A n c u av E) (q : Nat) : Bx w H B nb cb X nx cx l M most a0 (wr.drewN q) A n c u av E :=
 ⟨h.k1, h.k2, h.st.drewN q, h.out.drewN q, h.np, h.hH⟩
theorem Bx.put {A' : Option Addr} {n' c' : Nat} {u' : Un} (h : Bx w H B nb cb X nx cx l M most a0 wr A n c u av E) (ho : ROut (Value.slice A n c).ownBlock (Value.slice A' n' c').ownBlock wr w') (hs : RSt w' H B nb cb X nx cx l A' n' c' u' M) (av' E' : Int) :
  Bx w H B nb cb X nx cx l M most a0 (w'.setRow w.heap.size #[.slice B nb cb, .slice X nx cx, .int .i64 av', .slice A' n' c', .int .i64 most, .int .i64 E']) A' n' c' u' av' E' := by
 have k1 := ho.blk h.k1 h.np.1
 have k2 := ho.blk h.k2 h.np.2
 have np : (Value.slice A' n' c').ownBlock ≠ some w.heap.size ∧ (Value.slice A' n' c').ownBlock ≠ some (w.heap.size + 1) := ⟨ho.two h.np.1 h.k1.lt, ho.two h.np.2 h.k2.lt⟩
 exact ⟨k1.setRow _, (blk_setRow_other (by simp) _).trans k2, hs.setRow h.hH np.1 _, (h.out.trans ho).setRow (Nat.le_refl _) _, np, h.hH⟩
theorem Bx.get {u' : Un} (h : Bx w H B nb cb X nx cx l M most a0 wr A n c u av E) (hb : Below wr.heap.size wr w') (ho : u'.out = u.out) (ha : u'.at_ ≤ 8 * nb) (av' E' : Int) :
  Bx w H B nb cb X nx cx l M most a0 (w'.setRow w.heap.size #[.slice B nb cb, .slice X nx cx, .int .i64 av', .slice A n c, .int .i64 most, .int .i64 E']) A n c u' av' E' :=
 h.put (ROut.ofBelow hb) (h.st.below hb ha ho) av' E'
theorem Bx.err (h : Bx w H B nb cb X nx cx l M most a0 wr A n c u av E) (E' : Int) : Bx w H B nb cb X nx cx l M most a0 (wr.setCell ⟨w.heap.size, 5, none⟩ (.int .i64 E')) A n c u av E' := by
 rw [setCell_blk h.k1]
 exact h.get (Below.refl _ _) rfl h.st.at_le av E'
theorem Bx.ends (h : Bx w H B nb cb X nx cx l M most a0 wr A n c u av E) (D : Array Value) : ROut a0 (Value.slice A n c).ownBlock w (wr.setRow (w.heap.size + 1) D) := h.out.setRow (by omega) D
theorem Bx.endst (h : Bx w H B nb cb X nx cx l M most a0 wr A n c u av E) (D : Array Value) : RSt (wr.setRow (w.heap.size + 1) D) H B nb cb X nx cx l A n c u M := h.st.setRow (by have := h.hH; omega) h.np.2 D
theorem Bx.q6 (h : Bx w H B nb cb X nx cx l M most a0 wr A n c u av E) (a b c' d e f : Value) :
  (wr.setRow (w.heap.size + 1) #[a, b, c', d, e, f]).cell? ⟨w.heap.size + 1, 0, none⟩ = some a ∧ (wr.setRow (w.heap.size + 1) #[a, b, c', d, e, f]).cell? ⟨w.heap.size + 1, 1, none⟩ = some b ∧ (wr.setRow (w.heap.size + 1) #[a, b, c', d, e, f]).cell? ⟨w.heap.size + 1, 2, none⟩ = some c' ∧
  (wr.setRow (w.heap.size + 1) #[a, b, c', d, e, f]).cell? ⟨w.heap.size + 1, 3, none⟩ = some d ∧ (wr.setRow (w.heap.size + 1) #[a, b, c', d, e, f]).cell? ⟨w.heap.size + 1, 4, none⟩ = some e ∧ (wr.setRow (w.heap.size + 1) #[a, b, c', d, e, f]).cell? ⟨w.heap.size + 1, 5, none⟩ = some f := (h.k2.setRow #[a, b, c', d, e, f]).six.1
theorem Bx.ld (h : Bx w H B nb cb X nx cx l M most a0 wr A n c u av E) : Sem.run Tryz.prog (loadVar 80 ⟨w.heap.size, 0, none⟩) wr = .ok (.agg #[.slice B nb cb, .slice X nx cx, .int .i64 av, .slice A n c, .int .i64 most, .int .i64 E]) wr := load_st h.k1 rfl
theorem Bx.stp (h : Bx w H B nb cb X nx cx l M most a0 wr A n c u av E) (at_ : Int) (A' : Option Addr) (n' c' : Nat) (E' : Int) :
  Sem.run Tryz.prog (storeVar 80 ⟨w.heap.size, 0, none⟩ (.agg #[.slice B nb cb, .slice X nx cx, .int .i64 at_, .slice A' n' c', .int .i64 most, .int .i64 E'])) wr = .ok () (wr.setRow w.heap.size #[.slice B nb cb, .slice X nx cx, .int .i64 at_, .slice A' n' c', .int .i64 most, .int .i64 E']) := store_sV h.k1 rfl _ _ _ _ _ _ _ _ _ _ _ _
theorem Bx.stq (h : Bx w H B nb cb X nx cx l M most a0 wr A n c u av E) :
  Sem.run Tryz.prog (storeVar 80 ⟨w.heap.size + 1, 0, none⟩ (.agg #[.slice B nb cb, .slice X nx cx, .int .i64 av, .slice A n c, .int .i64 most, .int .i64 E])) wr = .ok () (wr.setRow (w.heap.size + 1) #[.slice B nb cb, .slice X nx cx, .int .i64 av, .slice A n c, .int .i64 most, .int .i64 E]) := store_sV h.k2 rfl _ _ _ _ _ _ _ _ _ _ _ _
set_option maxHeartbeats 4000000 in
theorem rmatch_c (h : RSt w H B nb cb X nx cx l A n c u M) (hm : max most 0 = (M : Int)) {L : Option Addr} {k ck g cg : Nat} {cl : List Int} (hT : RTb w (Value.slice A n c).ownBlock L k g cl) (s : Nat) (hs : s ≤ 300) :
  Calls Tryz.prog 93 #[sV B nb cb X nx cx u.at_ A n c most 0, .int .i64 s, .slice L k ck, .slice (some ⟨g, 0, none⟩) k cg] w fun e w' => RWent w H B nb cb X nx cx l A n c M most (matchF l M cl s u) e w' := by
 have HB0 := Lib.hid (Bx.start (most := most) h u.at_ 0)
 have HLB := Lib.hid (RefLengthBase_c (s : Int))
 have hlx := lxI_le s
 have hlb := lbI_le s
 unfold sV
 obtain ⟨av, hav⟩ : ∃ av, av = u.at_ := ⟨_, rfl⟩
 rw [← hav] at HB0 ⊢
 have HAV := Lib.hid hav
 clear hav
 cases hok : lokI s with
 | false =>
  have HR : Hid (matchF l M cl s u = .error 34) := by unfold Hid matchF meantF; rw [hok]; rfl
  rw [hok] at HLB
  clear h hT
  go_enter Tryz.func93, Tryz.ntmps93
  go_wp2_with (go_at_call 138; refine (HLB.out _).mono ?_; rintro e w' ⟨rfl, rfl⟩)
  refine bodyPost_ret (v := .agg #[.slice B nb cb, .slice X nx cx, .int .i64 av, .slice A n c, .int .i64 most, .int .i64 34]) (by simp [results, Tryz.results93, go_sem]) rfl ?_
  exact .inl ⟨34, _, _, _, _, _, HR.out, rfl, ROut.ofBelow (((Below.refl _ _).alloc (Nat.le_refl _) _).alloc (by simp) _)⟩
 | true =>
  rw [hok] at HLB
  have HT := Lib.hid hT
  have HM := Lib.hid hm
  obtain ⟨x, hx⟩ : ∃ x, x = lxI s := ⟨_, rfl⟩
  obtain ⟨y, hy⟩ : ∃ y, y = lbI s := ⟨_, rfl⟩
  rw [← hx] at hlx
  rw [← hy] at hlb
  rw [← hx, ← hy] at HLB
  have HMA : Hid (matchF l M cl s u = bnd (numF l x u) fun r => bnd (symF l cl r.2) fun q => farF l M q.1 (y + r.1) q.2) := by
   unfold Hid matchF meantF
   rw [hok, if_pos rfl, ← hx, ← hy]
   cases numF l x u <;> rfl
  have HG := Lib.hid (rget_c (most := most) HB0.out.st x (by omega))
  unfold sV at HG
  rw [← HAV.out] at HG
  clear h hT hm hx hy hok
  go_enter Tryz.func93, Tryz.ntmps93
  go_wp2_with (go_at_call 138; refine (HLB.out _).mono ?_; rintro e w' ⟨rfl, rfl⟩)
  refine HG.out.mono ?_
  rintro e w1 (⟨z, av1, g1, rfl, hb1⟩ | ⟨v, u1, g1, ho1, hv1, ha1, rfl, hb1⟩)
  ·have hz : z ≠ 0 := NZ.num l x u z g1
   have hz1 : ((z : Int) != 0) = true := by rw [bne_iff_ne]; omega
   have HR : Hid (matchF l M cl s u = .error z) := by unfold Hid; rw [HMA.out, g1]; rfl
   have hk := HB0.out.below hb1
   have hE := hk.get (Below.refl _ _) rfl hk.st.at_le av1 (z : Int)
   have t1 := hk.stp av1 A n c z
   have t2 := hE.ld
   have t3 := hE.stq
   obtain ⟨⟨c0, c1, c2, c3, c4, c5⟩, f0, f1, f2, f3, f4, f5⟩ := hE.k1.six
   have HE := Lib.hid hE
   clear g1 hz hb1 hk hE
   go_wp2_with (first
    | (with_reducible refine wpList_ld t2 (by with_unfolding_all rfl) ?_)
    | (with_reducible refine wpList_st t1 (by with_unfolding_all rfl) (by with_unfolding_all rfl) ?_)
    | (with_reducible refine wpList_st t3 (by with_unfolding_all rfl) (by with_unfolding_all rfl) ?_))
   obtain ⟨z0, z1, z2, z3, z4, z5⟩ := HE.out.q6 (.slice B nb cb) (.slice X nx cx) (.int .i64 av1) (.slice A n c) (.int .i64 most) (.int .i64 z)
   refine bodyPost_ret (v := .agg #[.slice B nb cb, .slice X nx cx, .int .i64 av1, .slice A n c, .int .i64 most, .int .i64 z]) (by simp [results, Tryz.results93, go_sem, z0, z1, z2, z3, z4, z5]) rfl ?_
   exact .inl ⟨z, _, _, _, _, _, HR.out, rfl, HE.out.ends _⟩
  ·have hk := HB0.out.below hb1
   have hB1 := HB0.out.get hb1 ho1 ha1 (u1.at_ : Int) 0
   have hv128 : v < 128 := Nat.lt_of_lt_of_le hv1 (show 2 ^ x ≤ 2 ^ 7 from Nat.pow_le_pow_right (by decide) hlx)
   have HMA1 : Hid (matchF l M cl s u = bnd (symF l cl u1) fun q => farF l M q.1 (y + v) q.2) := by unfold Hid; rw [HMA.out, g1]; rfl
   have hT1 := HT.out.rout hB1.out
   have HRD := Lib.hid (rread_c (ck := ck) (cg := cg) (most := most) hB1.st hT1.row hT1.codes hT1.ok)
   have hk288 := hT1.ok.few
   unfold sV at HRD
   obtain ⟨a1, ha1'⟩ : ∃ a1, a1 = u1.at_ := ⟨_, rfl⟩
   rw [← ha1'] at HRD hB1 ⊢
   have t1 := hk.stp a1 A n c 0
   have t2 := hB1.ld
   obtain ⟨⟨c0, c1, c2, c3, c4, c5⟩, f0, f1, f2, f3, f4, f5⟩ := hB1.k1.six
   have HB1 := Lib.hid hB1
   clear hk hB1 hT1 hb1 ho1 ha1 ha1' g1 hv1 HB0 HLB HG
   go_wp2_with (first
    | (with_reducible refine wpList_ld t2 (by with_unfolding_all rfl) ?_)
    | (with_reducible refine wpList_st t1 (by with_unfolding_all rfl) (by with_unfolding_all rfl) ?_))
   refine HRD.out.mono ?_
   rintro e w2 (⟨z, av2, v2, g2, rfl, hb2⟩ | ⟨d, u2, g2, ho2, hd2, ha2, rfl, hb2⟩)
   ·have hz : z ≠ 0 := NZ.sym l cl u1 z g2
    have hz1 : ((z : Int) != 0) = true := by rw [bne_iff_ne]; omega
    have HR : Hid (matchF l M cl s u = .error z) := by unfold Hid; rw [HMA1.out, g2]; rfl
    clear t1 t2 c0 c1 c2 c3 c4 c5 f0 f1 f2 f3 f4 f5
    have hk := HB1.out.below hb2
    have hE := hk.get (Below.refl _ _) rfl hk.st.at_le av2 (z : Int)
    have t1 := hk.stp av2 A n c z
    have t2 := hE.ld
    have t3 := hE.stq
    obtain ⟨⟨c0, c1, c2, c3, c4, c5⟩, f0, f1, f2, f3, f4, f5⟩ := hE.k1.six
    have HE := Lib.hid hE
    clear g2 hz hb2 hk hE
    go_wp2_with (first
     | (with_reducible refine wpList_ld t2 (by with_unfolding_all rfl) ?_)
     | (with_reducible refine wpList_st t1 (by with_unfolding_all rfl) (by with_unfolding_all rfl) ?_)
     | (with_reducible refine wpList_st t3 (by with_unfolding_all rfl) (by with_unfolding_all rfl) ?_))
    obtain ⟨z0, z1, z2, z3, z4, z5⟩ := HE.out.q6 (.slice B nb cb) (.slice X nx cx) (.int .i64 av2) (.slice A n c) (.int .i64 most) (.int .i64 z)
    refine bodyPost_ret (v := .agg #[.slice B nb cb, .slice X nx cx, .int .i64 av2, .slice A n c, .int .i64 most, .int .i64 z]) (by simp [results, Tryz.results93, go_sem, z0, z1, z2, z3, z4, z5]) rfl ?_
    exact .inl ⟨z, _, _, _, _, _, HR.out, rfl, HE.out.ends _⟩
   ·have hdx := dxI_le d
    have hdb := dbI_le d
    have HDB := Lib.hid (RefDistBase_c (d : Int))
    have HMA2 : Hid (matchF l M cl s u = farF l M d (y + v) u2) := by unfold Hid; rw [HMA1.out, g2]; rfl
    clear t1 t2 c0 c1 c2 c3 c4 c5 f0 f1 f2 f3 f4 f5
    have hk := HB1.out.below hb2
    have hB2 := HB1.out.get hb2 ho2 ha2 (u2.at_ : Int) 0
    cases hdok : dokI d with
    | false =>
     rw [hdok] at HDB
     have HR : Hid (matchF l M cl s u = .error 34) := by unfold Hid; rw [HMA2.out]; unfold farF meantF; rw [hdok]; rfl
     obtain ⟨a2, ha2'⟩ : ∃ a2, a2 = u2.at_ := ⟨_, rfl⟩
     rw [← ha2'] at hB2 ⊢
     have hB3 := hB2.err 34
     have t1 := hk.stp a2 A n c 0
     have t2 := hB3.ld
     have t3 := hB3.stq
     obtain ⟨⟨c0, c1, c2, c3, c4, c5⟩, f0, f1, f2, f3, f4, f5⟩ := hB2.k1.six
     have HB3 := Lib.hid hB3
     clear hk hB2 hB3 hb2 ho2 ha2 ha2' g2 hdok
     go_wp2_with (first
      | (go_at_call 139; refine (HDB.out _).mono ?_; rintro e w' ⟨rfl, rfl⟩)
      | (with_reducible refine wpList_ld t2 (by with_unfolding_all rfl) ?_)
      | (with_reducible refine wpList_st t1 (by with_unfolding_all rfl) (by with_unfolding_all rfl) ?_)
      | (with_reducible refine wpList_st t3 (by with_unfolding_all rfl) (by with_unfolding_all rfl) ?_))
     obtain ⟨z0, z1, z2, z3, z4, z5⟩ := HB3.out.q6 (.slice B nb cb) (.slice X nx cx) (.int .i64 a2) (.slice A n c) (.int .i64 most) (.int .i64 34)
     refine bodyPost_ret (v := .agg #[.slice B nb cb, .slice X nx cx, .int .i64 a2, .slice A n c, .int .i64 most, .int .i64 34]) (by simp [results, Tryz.results93, go_sem, z0, z1, z2, z3, z4, z5]) rfl ?_
     exact .inl ⟨34, _, _, _, _, _, HR.out, rfl, HB3.out.ends _⟩
    | true =>
     obtain ⟨fx, hfx⟩ : ∃ fx, fx = dxI d := ⟨_, rfl⟩
     obtain ⟨fb, hfb⟩ : ∃ fb, fb = dbI d := ⟨_, rfl⟩
     have hfb1 := dbI_pos hdok
     rw [hdok, ← hfx, ← hfb] at HDB
     rw [← hfx] at hdx
     rw [← hfb] at hdb hfb1
     have HMA3 : Hid (matchF l M cl s u = bnd (numF l fx u2) fun r => againF M (y + v) (fb + r.1) r.2) := by
      unfold Hid
      rw [HMA2.out]
      unfold farF meantF
      rw [hdok, if_pos rfl, ← hfx, ← hfb]
      cases numF l fx u2 <;> rfl
     have HG := Lib.hid (rget_c (most := most) hB2.st fx (by omega))
     unfold sV at HG
     obtain ⟨a2, ha2'⟩ : ∃ a2, a2 = u2.at_ := ⟨_, rfl⟩
     rw [← ha2'] at HG hB2 ⊢
     have t1 := hk.stp a2 A n c 0
     have t2 := hB2.ld
     obtain ⟨⟨c0, c1, c2, c3, c4, c5⟩, f0, f1, f2, f3, f4, f5⟩ := hB2.k1.six
     have HB2 := Lib.hid hB2
     clear hk hB2 hb2 ho2 ha2 ha2' g2 hdok hfx hfb
     go_wp2_with (first
      | (go_at_call 139; refine (HDB.out _).mono ?_; rintro e w' ⟨rfl, rfl⟩)
      | (with_reducible refine wpList_ld t2 (by with_unfolding_all rfl) ?_)
      | (with_reducible refine wpList_st t1 (by with_unfolding_all rfl) (by with_unfolding_all rfl) ?_))
     refine HG.out.mono ?_
     rintro e w3 (⟨z, av3, g3, rfl, hb3⟩ | ⟨r, u3, g3, ho3, hr3, ha3, rfl, hb3⟩)
     ·have hz : z ≠ 0 := NZ.num l fx u2 z g3
      have hz1 : ((z : Int) != 0) = true := by rw [bne_iff_ne]; omega
      have HR : Hid (matchF l M cl s u = .error z) := by unfold Hid; rw [HMA3.out, g3]; rfl
      clear t1 t2 c0 c1 c2 c3 c4 c5 f0 f1 f2 f3 f4 f5
      have hk := HB2.out.below hb3
      have hE := hk.get (Below.refl _ _) rfl hk.st.at_le av3 (z : Int)
      have t1 := hk.stp av3 A n c z
      have t2 := hE.ld
      have t3 := hE.stq
      obtain ⟨⟨c0, c1, c2, c3, c4, c5⟩, f0, f1, f2, f3, f4, f5⟩ := hE.k1.six
      have HE := Lib.hid hE
      clear g3 hz hb3 hk hE
      go_wp2_with (first
       | (with_reducible refine wpList_ld t2 (by with_unfolding_all rfl) ?_)
       | (with_reducible refine wpList_st t1 (by with_unfolding_all rfl) (by with_unfolding_all rfl) ?_)
       | (with_reducible refine wpList_st t3 (by with_unfolding_all rfl) (by with_unfolding_all rfl) ?_))
      obtain ⟨z0, z1, z2, z3, z4, z5⟩ := HE.out.q6 (.slice B nb cb) (.slice X nx cx) (.int .i64 av3) (.slice A n c) (.int .i64 most) (.int .i64 z)
      refine bodyPost_ret (v := .agg #[.slice B nb cb, .slice X nx cx, .int .i64 av3, .slice A n c, .int .i64 most, .int .i64 z]) (by simp [results, Tryz.results93, go_sem, z0, z1, z2, z3, z4, z5]) rfl ?_
      exact .inl ⟨z, _, _, _, _, _, HR.out, rfl, HE.out.ends _⟩
     ·have hr8192 : r < 8192 := Nat.lt_of_lt_of_le hr3 (show 2 ^ fx ≤ 2 ^ 13 from Nat.pow_le_pow_right (by decide) hdx)
      have HMA4 : Hid (matchF l M cl s u = againF M (y + v) (fb + r) u3) := by unfold Hid; rw [HMA3.out, g3]; rfl
      clear t1 t2 c0 c1 c2 c3 c4 c5 f0 f1 f2 f3 f4 f5
      have hk := HB2.out.below hb3
      have hB3 := HB2.out.get hb3 ho3 ha3 (u3.at_ : Int) 0
      have hn3 := hB3.st.out_
      have hfew := hB3.st.few
      obtain ⟨a3, ha3'⟩ : ∃ a3, a3 = u3.at_ := ⟨_, rfl⟩
      rw [← ha3'] at hB3 ⊢
      by_cases hfar : n < fb + r
      ·have HR : Hid (matchF l M cl s u = .error 35) := by unfold Hid; rw [HMA4.out]; unfold againF; rw [if_pos (by omega)]
       have hfar1 : (n : Int) < (fb : Int) + (r : Int) := by omega
       have hB4 := hB3.err 35
       have t1 := hk.stp a3 A n c 0
       have t2 := hB4.ld
       have t3 := hB4.stq
       obtain ⟨⟨c0, c1, c2, c3, c4, c5⟩, f0, f1, f2, f3, f4, f5⟩ := hB3.k1.six
       have HB4 := Lib.hid hB4
       clear hk hB3 hB4 hb3 ho3 ha3 ha3' g3 hfar hn3
       go_wp2_with (first
        | (with_reducible refine wpList_ld t2 (by with_unfolding_all rfl) ?_)
        | (with_reducible refine wpList_st t1 (by with_unfolding_all rfl) (by with_unfolding_all rfl) ?_)
        | (with_reducible refine wpList_st t3 (by with_unfolding_all rfl) (by with_unfolding_all rfl) ?_))
       obtain ⟨z0, z1, z2, z3, z4, z5⟩ := HB4.out.q6 (.slice B nb cb) (.slice X nx cx) (.int .i64 a3) (.slice A n c) (.int .i64 most) (.int .i64 35)
       refine bodyPost_ret (v := .agg #[.slice B nb cb, .slice X nx cx, .int .i64 a3, .slice A n c, .int .i64 most, .int .i64 35]) (by simp [results, Tryz.results93, go_sem, z0, z1, z2, z3, z4, z5]) rfl ?_
       exact .inl ⟨35, _, _, _, _, _, HR.out, rfl, HB4.out.ends _⟩
      ·have HR0 : Hid (matchF l M cl s u = agF M (fb + r) (y + v) u3) := by unfold Hid; rw [HMA4.out]; unfold againF; rw [if_neg (by omega)]
       have hfar1 : ¬ (n : Int) < (fb : Int) + (r : Int) := by omega
       have t1 := hk.stp a3 A n c 0
       obtain ⟨⟨c0, c1, c2, c3, c4, c5⟩, f0, f1, f2, f3, f4, f5⟩ := hB3.k1.six
       have HB3 := Lib.hid hB3
       have HA3 := Lib.hid ha3'
       have hfarn : fb + r ≤ n := by omega
       clear hk hB3 hb3 ho3 ha3 ha3' g3 hfar hn3
       go_wp2_with (first
        | (with_reducible refine wpList_st t1 (by with_unfolding_all rfl) (by with_unfolding_all rfl) ?_))
       obtain ⟨K, hK⟩ : ∃ K, K = y + v := ⟨_, rfl⟩
       obtain ⟨dist, hdist⟩ : ∃ dist, dist = fb + r := ⟨_, rfl⟩
       rw [← hK, ← hdist] at HR0
       rw [← hdist] at hfarn
       have HK := Lib.hid hK
       have HDI := Lib.hid hdist
       have hK0 : (y : Int) + (v : Int) = (K : Int) := by omega
       have hdist1 : 1 ≤ dist := by omega
       clear hK hdist t1 c0 c1 c2 c3 c4 c5 f0 f1 f2 f3 f4 f5
       generalize w3.setRow w.heap.size #[.slice B nb cb, .slice X nx cx, .int .i64 a3, .slice A n c, .int .i64 most, .int .i64 0] = W3 at HB3 ⊢
       go_loopw [16] (fun iv wr => ∃ (j n' c' : Nat) (E : Int) (A' : Option Addr) (uu : Un), j ≤ K ∧ iv = .int .i64 j ∧ dist ≤ n' ∧ Hid (Bx w H B nb cb X nx cx l M most (Value.slice A n c).ownBlock wr A' n' c' uu a3 E) ∧ Hid (uu.at_ = a3) ∧ Hid ((E = 0 ∧ matchF l M cl s u = agF M dist (K - j) uu) ∨ (E = 6 ∧ matchF l M cl s u = .error 6))) (fun iv _ => K - (intOf iv).toNat)
       case atStart => exact ⟨0, n, c, 0, A, u3, by omega, rfl, hfarn, HB3, HA3.out.symm, .inl ⟨rfl, HR0.out⟩⟩
       case round =>
        obtain ⟨j, n', c', E, A', uu, hj, rfl, hdn, hB, hat3, hE⟩ := hrel
        have hRet : (E = 6 ∧ (j : Int) < (K : Int)) ∨ (E = 6 ∧ ¬ (j : Int) < (K : Int)) ∨ (E = 0 ∧ j = K) ∨ (E = 0 ∧ j < K) := by rcases hE.out with h | h <;> omega
        rcases hRet with ⟨hE6, hjK⟩ | ⟨hE6, hjK⟩ | ⟨hE0, hjK⟩ | ⟨hE0, hjK⟩
        iterate 2
         ·subst hE6
          have HR : Hid (matchF l M cl s u = .error 6) := by
           rcases hE.out with h | h
           ·omega
           ·exact h.2
          have t2 := hB.out.ld
          have t3 := hB.out.stq
          obtain ⟨⟨c0, c1, c2, c3, c4, c5⟩, f0, f1, f2, f3, f4, f5⟩ := hB.out.k1.six
          go_wp2_with (first
           | (with_reducible refine wpList_ld t2 (by with_unfolding_all rfl) ?_)
           | (with_reducible refine wpList_st t3 (by with_unfolding_all rfl) (by with_unfolding_all rfl) ?_))
          obtain ⟨z0, z1, z2, z3, z4, z5⟩ := hB.out.q6 (.slice B nb cb) (.slice X nx cx) (.int .i64 a3) (.slice A' n' c') (.int .i64 most) (.int .i64 6)
          refine bodyPost_ret (v := .agg #[.slice B nb cb, .slice X nx cx, .int .i64 a3, .slice A' n' c', .int .i64 most, .int .i64 6]) (by simp [results, Tryz.results93, go_sem, z0, z1, z2, z3, z4, z5]) rfl ?_
          exact .inl ⟨6, _, _, _, _, _, HR.out, rfl, hB.out.ends _⟩
        ·subst hE0 hjK
         have HR : Hid (matchF l M cl s u = .ok uu) := by
          rcases hE.out with h | h
          ·rw [h.2, Nat.sub_self]; rfl
          ·omega
         have t2 := hB.out.ld
         have t3 := hB.out.stq
         obtain ⟨⟨c0, c1, c2, c3, c4, c5⟩, f0, f1, f2, f3, f4, f5⟩ := hB.out.k1.six
         go_wp2_with (first
          | (with_reducible refine wpList_ld t2 (by with_unfolding_all rfl) ?_)
          | (with_reducible refine wpList_st t3 (by with_unfolding_all rfl) (by with_unfolding_all rfl) ?_))
         obtain ⟨z0, z1, z2, z3, z4, z5⟩ := hB.out.q6 (.slice B nb cb) (.slice X nx cx) (.int .i64 a3) (.slice A' n' c') (.int .i64 most) (.int .i64 0)
         refine bodyPost_ret (v := .agg #[.slice B nb cb, .slice X nx cx, .int .i64 a3, .slice A' n' c', .int .i64 most, .int .i64 0]) (by simp [results, Tryz.results93, go_sem, z0, z1, z2, z3, z4, z5]) rfl ?_
         exact .inr ⟨A', n', c', uu, HR.out, by rw [hat3.out]; rfl, hB.out.endst _, hB.out.ends _⟩
        ·subst hE0
         have hjK2 : (j : Int) < (K : Int) := by omega
         have hAG : matchF l M cl s u = agF M dist (K - j) uu := by
          rcases hE.out with h | h
          ·exact h.2
          ·omega
         have hno := hB.out.st.out_
         have hfew' := hB.out.st.few
         obtain ⟨zz, hzz⟩ : ∃ zz, zz = n' - dist := ⟨_, rfl⟩
         obtain ⟨b1, o1, hA1, _, q1⟩ := (own_in hB.out.st.own).row.at_ (k := zz) (by omega)
         obtain ⟨yy, hyy⟩ : ∃ yy, yy = gt uu.out zz := ⟨_, rfl⟩
         rw [← hyy] at q1
         have hst : Hid (matchF l M cl s u = bnd (putF M yy uu) (agF M dist (K - (j + 1)))) := by
          unfold Hid
          rw [hAG, show K - j = K - (j + 1) + 1 by omega, agF, hno, hyy, hzz]
         obtain ⟨z1, hz1⟩ : ∃ z1, z1 = n' - fb := ⟨_, rfl⟩
         have hw1 : IntKind.i64.wrap ((n' : Int) - (fb : Int)) = (z1 : Int) := (IntWalk.i64_in _ (by omega)).trans (by have := HDI.out; omega)
         have hw2 : IntKind.i64.wrap ((z1 : Int) - (r : Int)) = (zz : Int) := (IntWalk.i64_in _ (by omega)).trans (by have := HDI.out; omega)
         have hzn : (zz : Int) < (n' : Int) := by omega
         have hzn0 : (0 : Int) ≤ (zz : Int) := by omega
         subst hA1
         have HP := Lib.hid (rput_c (hB.out.st.drewN 1) HM.out yy)
         unfold sV at HP
         rw [hat3.out] at HP
         obtain ⟨⟨c0, c1, c2, c3, c4, c5⟩, f0, f1, f2, f3, f4, f5⟩ := hB.out.k1.six
         have HYY := Lib.hid hyy
         have HZZ := Lib.hid hzz
         clear hAG hno hyy hzz hz1
         go_wp2
         go_still_tail 12, (by kernel_rfl)
         go_wp2_with fail
         refine HP.out.mono ?_
         rintro e w4 (⟨g4, rfl, hb⟩ | ⟨A2, cp2, g4, rfl, hU4, hO4⟩)
         ·have HR : Hid (matchF l M cl s u = .error 6) := by unfold Hid; rw [hst.out, g4]; rfl
          have hk := (hB.out.drewN 1).below hb
          have t1 := hk.stp a3 (some ⟨b1, o1, none⟩) n' c' 6
          have HB4 := Lib.hid (hk.get (Below.refl _ _) rfl hk.st.at_le a3 6)
          clear hk hb g4
          go_wp2_with (first
           | (with_reducible refine wpList_st t1 (by with_unfolding_all rfl) (by with_unfolding_all rfl) ?_))
          go_roundw
          case rel => exact ⟨j + 1, n', c', 6, some ⟨b1, o1, none⟩, uu, by omega, by go_num, hdn, HB4, hat3, .inr ⟨rfl, HR.out⟩⟩
          case measure => simp [intOf]; omega
         ·have HR : Hid (matchF l M cl s u = agF M dist (K - (j + 1)) ⟨a3, uu.out ++ [yy]⟩) := by unfold Hid; rw [hst.out, g4]; rfl
          have t1 := store_sV (hO4.blk (w := wr.drewN 1) hB.out.k1 hB.out.np.1) rfl B nb cb X nx cx a3 A2 (n' + 1) cp2 most 0
          have HB4 := Lib.hid ((hB.out.drewN 1).put hO4 hU4 a3 0)
          clear hO4 hU4 g4
          go_wp2_with (first
           | (with_reducible refine wpList_st t1 (by with_unfolding_all rfl) (by with_unfolding_all rfl) ?_))
          go_roundw
          case rel => exact ⟨j + 1, n' + 1, cp2, 0, A2, ⟨a3, uu.out ++ [yy]⟩, by omega, by go_num, by omega, HB4, rfl, .inl ⟨rfl, HR.out⟩⟩
          case measure => simp [intOf]; omega
end
end
end Go.Proofs.YtldgdofefcehnaaGreatDoor
