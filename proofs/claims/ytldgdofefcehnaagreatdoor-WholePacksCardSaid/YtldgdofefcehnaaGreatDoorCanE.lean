/-
  THE CONTRACT OF canon.New. No conditions.
  THE CONTRACTS OF a table's Code and Read. No conditions.
-/
import Derived.Test.YtldgdofefcehnaaGreatDoorCan
import Derived.Test.YtldgdofefcehnaaGreatDoorBits
import Derived.Deep.AppendLies
import Derived.Deep.RegionLaw
import Derived.Deep.RegionHeld3
import Derived.Lib.MinMax
import Derived.Deep.Draws
namespace Go.Proofs.YtldgdofefcehnaaGreatDoor
section
open Go.RowKit
set_option maxRecDepth 100000
set_option linter.unusedVariables false
theorem info_int : (Tryz.prog.info? 3).map (fun i => (i.zero, i.size, i.bytes)) = some (some (.int .i64 0), 1, 8) := by kernel_rfl
def iC (l : List Int) : List Value := l.map (Value.int .i64)
theorem iC_length (l : List Int) : (iC l).length = l.length := by simp [iC]
theorem iC_at {l : List Int} {i : Nat} (h : i < l.length) : (iC l)[i]? = some (.int .i64 (gi l i)) := by simp [iC, gi, h]
theorem iC_one (l : List Int) : ∀ u ∈ iC l, u.oneCell' = true := by
 intro u hu
 obtain ⟨b, _, rfl⟩ := List.mem_map.1 hu
 rfl
theorem iC_append (l m : List Int) : iC (l ++ m) = iC l ++ iC m := by simp [iC]
theorem IRow.none_nil {w : World} {n : Nat} {k : IntKind} {l : List Int} (h : IRow w none n k l) : n = 0 ∧ l = [] := by
 have h1 : n = 0 := by
  by_cases h0 : 0 < n
  ·obtain ⟨b, off, e, _⟩ := h.cells h0; cases e
  ·omega
 subst h1
 exact ⟨rfl, List.length_eq_zero_iff.1 h.len⟩
theorem IRow.cellsOf {w : World} {ad : Addr} {n : Nat} {l : List Int} (h : IRow w (some ad) n .i64 l) : ∀ j u, (iC l)[j]? = some u → w.cell? (ad.add j) = some u := by
 intro j u hj
 have hlt : j < l.length := by
  have := (List.getElem?_eq_some_iff.1 hj).1
  rwa [iC_length] at this
 rw [iC_at hlt] at hj
 injection hj with hj
 have hl := h.len
 obtain ⟨b', o', e, _, hc⟩ := h.cells (by omega)
 injection e with e
 subst e hj
 have e : (⟨b', o', none⟩ : Addr).add j = ⟨b', o' + j, none⟩ := by unfold Addr.add; split <;> simp_all
 rw [e]
 exact hc j (by omega)
theorem IRow.alloc {w : World} {A : Option Addr} {n : Nat} {k : IntKind} {l : List Int} (h : IRow w A n k l) (o : Obj) : IRow (w.alloc o) A n k l := h.below ((Below.refl _ _).alloc (Nat.le_refl _) _)
theorem IRow.ofOwn {w : World} {base c n : Nat} {e : TypeId} {A : Option Addr} {l : List Int} (h : w.ownsRow base e 1 (.slice A n c) n (iC l)) (hwf : ∀ i, i < n → (Lit.int .i64 (gi l i)).wf = true) (hm : n ≤ maxLen) : IRow w A n .i64 l := by
 have hl : l.length = n := by have := h.1; rw [iC_length] at this; omega
 refine ⟨hl, hm, fun h0 => ?_, hwf⟩
 obtain ⟨g, cap, hv, _, hg⟩ := h.form h0
 injection hv with hv1 _ hv3
 subst hv1 hv3
 refine ⟨g, 0, rfl, hg, fun i hi => ?_⟩
 rw [Nat.zero_add, h.cellAt i (by omega), iC_at (by omega)]
set_option maxHeartbeats 400000 in
theorem CloneI_c (A : Option Addr) (n c : Nat) (l : List Int) (w : World) (h : IRow w A n .i64 l) (hn : n ≤ 1000000) :
  Calls Tryz.prog 77 #[.slice A n c] w fun e w' => ∃ A' c', e = .returned (.slice A' n c') ∧ w'.ownsRow w.heap.size 3 1 (.slice A' n c') n (iC l) ∧ Below w.heap.size w w' := by
 obtain ⟨i0, hi, hz0, hz1, hz2⟩ := info_parts info_int
 have q22 : ∀ (w : World) (a : Option Addr) (n c n' c' : Nat), (binOp .eql 49 (.slice a n c) (.slice none n' c')).run Tryz.prog w = .ok (.bool a.isNone) w := fun w a n c n' c' => Lib.run_eql_slice_nil w _ _ a n c n' c' Tryz.underlying49
 cases A with
 | none =>
  obtain ⟨rfl, rfl⟩ := h.none_nil
  go_enter Tryz.func77, Tryz.ntmps77
  go_wp2
  go_ret
  exact ⟨none, 0, rfl, World.ownsRow_nil _ _ _ _, Below.refl _ _⟩
 | some ad =>
  have hl := h.len
  have hm := h.max'
  have h1 := (h.alloc (.cells #[] 3)).cellsOf
  have HC := Lib.hid h1
  clear h1
  have HL := Lib.hid hl
  clear hl
  go_enter Tryz.func77, Tryz.ntmps77
  go_wp2_with (at_builtin; refine wpList_append_own _ rfl _ _ 49 rfl w.heap.size 3 i0 (.int .i64 0) 1 8 Tryz.underlying49 hi hz0 hz1 hz2 rfl (by decide) _ _ _ rfl (World.ownsRow_made w #[] 0 (Nat.le_refl _) (Nat.zero_le _) rfl) ad n c (iC l) rfl (by rw [iC_length, HL.out, Nat.mul_one]) HC.out (iC_one l) (by unfold maxLen; omega) (by omega) (by simp) ?_; intro v' w1 hown hgrow hnil)
  obtain ⟨A', c', hv, _⟩ := own_shape hown
  rw [Nat.zero_add] at hv
  subst hv
  go_wp2
  go_ret
  refine ⟨A', c', rfl, by simpa using hown, ?_⟩
  exact ((Below.refl _ w).alloc (Nat.le_refl _) _).grown hgrow (by simp) (fun k hk => by cases hk; exact Nat.le_refl _)
def symL (l : List Int) (j : Nat) : Nat → List Int
 | 0 => []
 | k + 1 => if gi l k = (j : Int) then symL l j k ++ [(k : Int)] else symL l j k
theorem symL_length (l : List Int) (j k : Nat) : (symL l j k).length = cL l j k := by
 induction k with
 | zero => rfl
 | succ k ih =>
  unfold symL cL
  split
  ·rw [List.length_append, ih]; rfl
  ·rw [ih]; rfl
theorem symL_at {l : List Int} {j i : Nat} (hi : gi l i = (j : Int)) : ∀ {k : Nat}, i < k → (symL l j k)[cL l j i]? = some (i : Int) := by
 intro k
 induction k with
 | zero => intro h; omega
 | succ k ih =>
  intro h
  unfold symL
  by_cases e : i = k
  ·subst e
   rw [if_pos hi, List.getElem?_append_right (by rw [symL_length]; exact Nat.le_refl _), symL_length, Nat.sub_self]
   rfl
  ·split
   ·rw [List.getElem?_append_left (by rw [symL_length]; exact cL_lt hi (by omega))]
    exact ih (by omega)
   ·exact ih (by omega)
def tabL (cv lv : Value) (F : Nat → Nat) (S : Nat → Value) (m : Nat) : List Value := cv :: lv :: (us F 17 ++ ((List.range 16).map S ++ [.int .i64 (m : Int)]))
section
variable {cv lv : Value} {F : Nat → Nat} {S : Nat → Value} {m : Nat}
theorem tabL_first {i : Nat} (h : i < 17) : (tabL cv lv F S m)[2 + i]? = some (.int .u32 ((F i : Nat) : Int)) := by
 unfold tabL
 rw [show 2 + i = i + 1 + 1 by omega, List.getElem?_cons_succ, List.getElem?_cons_succ, List.getElem?_append_left (by rw [us_length]; exact h), us_at _ h]
theorem tabL_row {j : Nat} (h : j < 16) : (tabL cv lv F S m)[19 + j]? = some (S j) := by
 unfold tabL
 rw [show 19 + j = 17 + j + 1 + 1 by omega, List.getElem?_cons_succ, List.getElem?_cons_succ, List.getElem?_append_right (by rw [us_length]; omega), us_length, List.getElem?_append_left (by simp; omega)]
 simp [h]
theorem tabL_most : (tabL cv lv F S m)[35]? = some (.int .i64 (m : Int)) := by
 unfold tabL
 rw [show 35 = 33 + 1 + 1 by omega, List.getElem?_cons_succ, List.getElem?_cons_succ, List.getElem?_append_right (by rw [us_length]; omega), us_length, List.getElem?_append_right (by simp)]
 simp
theorem tabL_set_row {j : Nat} (h : j < 16) (v : Value) : (tabL cv lv F S m).set (19 + j) v = tabL cv lv F (fun i => if i = j then v else S i) m := by
 unfold tabL
 rw [show 19 + j = 17 + j + 1 + 1 by omega, List.set_cons_succ, List.set_cons_succ, List.set_append_right _ _ (by rw [us_length]; omega), us_length, List.set_append_left _ _ (by simp; omega)]
 congr 4
 refine List.ext_getElem? fun i => ?_
 rw [List.getElem?_set]
 by_cases hi : i < 16
 ·by_cases e : j = i
  ·subst e
   simp [h]
  ·rw [show 17 + j - 17 = j by omega, if_neg e]
   simp [hi, Ne.symm e]
 ·rw [List.getElem?_eq_none (l := (List.range 16).map fun i => if i = j then v else S i) (by simp; omega), List.getElem?_eq_none (l := (List.range 16).map S) (by simp; omega), if_neg (by omega)]
theorem tabL_set_most (v : Nat) : (tabL cv lv F S m).set 35 (.int .i64 (v : Int)) = tabL cv lv F S v := by
 unfold tabL
 rw [show 35 = 33 + 1 + 1 by omega, List.set_cons_succ, List.set_cons_succ, List.set_append_right _ _ (by rw [us_length]; omega), us_length, List.set_append_right _ _ (by simp)]
 simp
end
set_option maxHeartbeats 4000000 in
theorem New_no (A : Option Addr) (n c : Nat) (l : List Int) (w : World) (h : IRow w A n .i64 l) (he : errC l n ≠ 0) :
  Calls Tryz.prog 31 #[.slice A n c] w fun e w' => e = .returned (.tuple #[.pointer none, .int .i64 (errC l n)]) ∧ Below w.heap.size w w' := by
 have hw := Codes_no A n c l w h he
 obtain ⟨x, hx⟩ : ∃ x, x = errC l n := ⟨_, rfl⟩
 rw [← hx] at hw he ⊢
 have hne : ((x : Int) != 0) = true := by rw [bne_iff_ne]; omega
 have HW := Lib.hid hw
 clear hw hx he
 go_enter Tryz.func31, Tryz.ntmps31
 go_wp2_with (go_at_call 76; refine HW.out.mono ?_; rintro e w1 ⟨rfl, hb1⟩)
 go_ret2
 exact ⟨rfl, hb1⟩
theorem tab_built (cv lv : Value) (f : Nat → Nat) : List.foldl (fun (cs : Array Value) (x : Value × Nat) => cs.setIfInBounds (2 + x.snd) x.fst)
  #[cv, lv, .int .u32 0, .int .u32 0, .int .u32 0, .int .u32 0, .int .u32 0, .int .u32 0, .int .u32 0, .int .u32 0, .int .u32 0, .int .u32 0, .int .u32 0, .int .u32 0, .int .u32 0, .int .u32 0, .int .u32 0, .int .u32 0, .int .u32 0,
   .slice none 0 0, .slice none 0 0, .slice none 0 0, .slice none 0 0, .slice none 0 0, .slice none 0 0, .slice none 0 0, .slice none 0 0, .slice none 0 0, .slice none 0 0, .slice none 0 0, .slice none 0 0, .slice none 0 0, .slice none 0 0, .slice none 0 0, .slice none 0 0, .int .i64 0]
  (us f 17).zipIdx = (tabL cv lv f (fun _ => .slice none 0 0) 0).toArray := by kernel_rfl
structure TabOk (l : List Int) (n : Nat) : Prop where
 len : l.length = n
 few : n ≤ 288
 right : RightL l
 fit : kr l n ≤ 32768
 shut : kr l n = 32768 ∨ totL l n < 2
structure TabIn (w : World) (p n : Nat) (l : List Int) (gc : Nat) (LA : Option Addr) (lc : Nat) (S : Nat → Value) : Prop where
 blk : Blk w p 126 (tabL (.slice (some ⟨gc, 0, none⟩) n n) (.slice LA n lc) (fK l n) S (mxL l n)).toArray
 codes : ∀ i, i < n → gc < w.heap.size ∧ w.cell? ⟨gc, i, none⟩ = some (.int .u32 ((codeN l i : Nat) : Int))
 lens : IRow w LA n .i64 l
 rows : ∀ j, j < 16 → ∃ O c, S j = .slice O (cL l j n) c ∧ ∀ i, i < n → gi l i = (j : Int) → ∃ g, O = some ⟨g, 0, none⟩ ∧ g < w.heap.size ∧ w.cell? ⟨g, cL l j i, none⟩ = some (.int .i64 (i : Int))
 ok : TabOk l n
 held : ∀ j, j < 16 → ∀ g, (S j).ownBlock = some g → g < w.heap.size
theorem TabIn.below {w w' : World} {p n : Nat} {l : List Int} {gc : Nat} {LA : Option Addr} {lc : Nat} {S : Nat → Value} (h : TabIn w p n l gc LA lc S) (hb : Below w.heap.size w w') : TabIn w' p n l gc LA lc S := by
 have hs := hb.size
 refine ⟨h.blk.below h.blk.lt hb, fun i hi => ?_, h.lens.below hb, fun j hj => ?_, h.ok, fun j hj g hg => by have := h.held j hj g hg; omega⟩
 ·obtain ⟨h1, h2⟩ := h.codes i hi
  exact ⟨by omega, (hb.cell (p := ⟨gc, i, none⟩) h1).trans h2⟩
 ·obtain ⟨O, c, h1, h2⟩ := h.rows j hj
  refine ⟨O, c, h1, fun i hi hij => ?_⟩
  obtain ⟨g, h3, h4, h5⟩ := h2 i hi hij
  exact ⟨g, h3, by omega, (hb.cell (p := ⟨g, cL l j i, none⟩) h4).trans h5⟩
structure RowsIn (w : World) (p : Nat) (l : List Int) (k : Nat) (S : Nat → Value) : Prop where
 own : ∀ j, j < 16 → w.ownsRow (p + 1) 3 1 (S j) (cL l j k) (iC (symL l j k))
 apart : ∀ i j, i < 16 → j < 16 → i ≠ j → ∀ g, (S i).ownBlock = some g → (S j).ownBlock ≠ some g
theorem own_kept {w w' : World} {base n : Nat} {e : TypeId} {v : Value} {xs : List Value} {row : Option Nat} (h : w.ownsRow base e 1 v n xs) (hg : w.grownBy w' row) (hne : ∀ g, v.ownBlock = some g → row ≠ some g) : w'.ownsRow base e 1 v n xs := by
 refine ⟨h.1, ?_⟩
 rcases h.2 with hn | ⟨g, cap, cur, hv, hbg, hk, rest⟩
 ·exact .inl hn
 ·exact .inr ⟨g, cap, cur, hv, hbg, (hg.block g (Array.getElem?_eq_some_iff.1 hk).1 (fun e => hne g (by rw [hv]; rfl) e.symm)).trans hk, rest⟩
theorem RowsIn.alloc {w : World} {p : Nat} {l : List Int} {k : Nat} {S : Nat → Value} (h : RowsIn w p l k S) (o : Obj) : RowsIn (w.alloc o) p l k S := ⟨fun j hj => (h.own j hj).alloc o, h.apart⟩
theorem RowsIn.drewN {w : World} {p : Nat} {l : List Int} {k : Nat} {S : Nat → Value} (h : RowsIn w p l k S) (q : Nat) : RowsIn (w.drewN q) p l k S := ⟨fun j hj => h.own j hj, h.apart⟩
theorem RowsIn.setP {w : World} {p : Nat} {l : List Int} {k : Nat} {S : Nat → Value} (h : RowsIn w p l k S) (i : Nat) (v : Value) : RowsIn (w.setCell ⟨p, i, none⟩ v) p l k S := ⟨fun j hj => own_set_other (h.own j hj) (by simp) v, h.apart⟩
theorem RowsIn.step {w w' : World} {p : Nat} {l : List Int} {k a : Nat} {S : Nat → Value} (h : RowsIn w p l k S) (ha : gi l k = (a : Int)) (ha16 : a < 16) {g cap : Nat} (hown : w'.ownsRow (p + 1) 3 1 (.slice (some ⟨g, 0, none⟩) (cL l a k + 1) cap) (cL l a k + 1) (iC (symL l a k) ++ [.int .i64 (k : Int)]))
  (hg : w.grownBy w' (S a).ownBlock) (hat : (S a).ownBlock = some g ∨ g = w.heap.size) : RowsIn w' p l (k + 1) (fun j => if j = a then .slice (some ⟨g, 0, none⟩) (cL l a k + 1) cap else S j) := by
 have hlt : ∀ j, j < 16 → ∀ x, (S j).ownBlock = some x → x < w.heap.size := fun j hj x hx => ((h.own j hj).lt x hx).2
 refine ⟨fun j hj => ?_, fun i j hi hj hij x hx => ?_⟩
 ·by_cases e : j = a
  ·subst e
   rw [if_pos rfl, cL, if_pos ha, symL, if_pos ha, iC_append]
   exact hown
  ·rw [if_neg e, show cL l j (k + 1) = cL l j k by rw [cL, if_neg (by omega)]; rfl, show symL l j (k + 1) = symL l j k by rw [symL, if_neg (by omega)]]
   exact own_kept (h.own j hj) hg (fun g' hg' e2 => h.apart j a hj ha16 e g' hg' e2)
 ·by_cases ei : i = a
  ·subst ei
   rw [if_pos rfl] at hx
   rw [if_neg (Ne.symm hij)]
   have hxg : x = g := by injection hx with hx; exact hx.symm
   subst hxg
   rcases hat with h1 | h1
   ·exact h.apart i j hi hj hij x h1
   ·intro h2
    have := hlt j hj x h2
    omega
  ·rw [if_neg ei] at hx
   by_cases ej : j = a
   ·subst ej
    rw [if_pos rfl]
    intro h2
    have hxg : x = g := by injection h2 with h2; exact h2.symm
    subst hxg
    rcases hat with h1 | h1
    ·exact h.apart i j hi hj hij x hx h1
    ·have := hlt i hi x hx
     omega
   ·rw [if_neg ej]
    exact h.apart i j hi hj hij x hx
structure TabLo (B p gc : Nat) (LA : Option Addr) (S : Nat → Value) : Prop where
 tab : B ≤ p
 cod : B ≤ gc
 len : ∀ b o, LA = some ⟨b, o, none⟩ → B ≤ b
 row : ∀ j, j < 16 → ∀ g, (S j).ownBlock = some g → B ≤ g
set_option maxHeartbeats 4000000 in
theorem New_lo (A : Option Addr) (n c : Nat) (l : List Int) (w : World) (h : IRow w A n .i64 l) (he : errC l n = 0) :
  Calls Tryz.prog 31 #[.slice A n c] w fun e w' => ∃ p gc LA lc S, e = .returned (.tuple #[.pointer (some ⟨p, 0, none⟩), .int .i64 0]) ∧ TabIn w' p n l gc LA lc S ∧ TabLo w.heap.size p gc LA S ∧ Below w.heap.size w w' := by
 obtain ⟨hn, hrb, hk, hop⟩ := errC_zero he
 have HW := Lib.hid (Codes_ok A n c l w h he)
 have hri : RightL l := by have := RightB_all hrb; unfold RightL; rw [h.len]; exact this
 have HRI : Hid (∀ i, i < n → 0 ≤ gi l i ∧ gi l i ≤ 15) := RightB_all hrb
 have HFI := Lib.hid (fun W (hb : Below w.heap.size w W) => firstCodes_c A n c l W (h.below hb) hri hn)
 obtain ⟨i0, hi, hz0, hz1, hz2⟩ := info_parts info_int
 have HFX : Hid (TabOk l n) := ⟨h.len, hn, hri, hk, hop⟩
 clear hri hrb he hk hop
 go_enter Tryz.func31, Tryz.ntmps31
 go_wp2_with (go_at_call 76; refine HW.out.mono ?_; rintro e w1 ⟨gc, rfl, hcod1, hb1⟩)
 refine (CloneI_c A n c l w1 (h.below hb1) (by omega)).mono ?_
 rintro e w2 ⟨LA, lc, rfl, hlen2, hb2⟩
 have hb12 := hb1.trans (hb2.mono hb1.size)
 have hcod2 := own_below hcod1 hb2
 have HLO : Hid (∀ x, w1.heap.size ≤ x → w.heap.size ≤ x) := fun x hx => by have := hb1.size; omega
 clear hcod1 hb1 hb2
 go_wp2_with fail
 refine (HFI.out w2 hb12).mono ?_
 rintro e w3 ⟨rfl, hb3⟩
 have hb13 := hb12.trans (hb3.mono hb12.size)
 have hcod3 := own_below hcod2 hb3
 have hlen3 := own_below hlen2 hb3
 clear hcod2 hlen2 hb12 hb3
 have hl17 : (us (fK l n) 17).length = 17 := us_length _ _
 go_wp2_with fail
 rw [tab_built]
 obtain ⟨p, hp⟩ : ∃ p, p = w3.heap.size := ⟨_, rfl⟩
 have hT0 : Blk (w3.alloc (.cells (tabL (.slice (some ⟨gc, 0, none⟩) n n) (.slice LA n lc) (fK l n) (fun _ => .slice none 0 0) 0).toArray 126)) p 126 (tabL (.slice (some ⟨gc, 0, none⟩) n n) (.slice LA n lc) (fK l n) (fun _ => .slice none 0 0) 0).toArray := by rw [hp]; exact Blk.new _ _ _
 have hR0 : RowsIn (w3.alloc (.cells (tabL (.slice (some ⟨gc, 0, none⟩) n n) (.slice LA n lc) (fK l n) (fun _ => .slice none 0 0) 0).toArray 126)) p l 0 (fun _ => .slice none 0 0) :=
  ⟨fun j hj => World.ownsRow_nil _ _ _ _, fun i j _ _ _ g hg => by cases hg⟩
 have hB0 : Below p w3 (w3.alloc (.cells (tabL (.slice (some ⟨gc, 0, none⟩) n n) (.slice LA n lc) (fK l n) (fun _ => .slice none 0 0) 0).toArray 126)) := by rw [hp]; exact (Below.refl _ _).alloc (Nat.le_refl _) _
 have hp1 : p + 1 ≤ (w3.alloc (.cells (tabL (.slice (some ⟨gc, 0, none⟩) n n) (.slice LA n lc) (fK l n) (fun _ => .slice none 0 0) 0).toArray 126)).heap.size := by simp; omega
 rw [← hp]
 have HP := Lib.hid hp
 have h3 := h.below hb13
 clear hp h
 generalize w3.alloc (.cells (tabL (.slice (some ⟨gc, 0, none⟩) n n) (.slice LA n lc) (fK l n) (fun _ => .slice none 0 0) 0).toArray 126) = W0 at *
 go_loopw [26] (fun i wr => ∃ (k : Nat) (S : Nat → Value), k ≤ n ∧ i = .int .i64 k ∧ Blk wr p 126 (tabL (.slice (some ⟨gc, 0, none⟩) n n) (.slice LA n lc) (fK l n) S (mxL l k)).toArray ∧ RowsIn wr p l k S ∧ Below p w3 wr ∧ p + 1 ≤ wr.heap.size) (fun i _ => n - (intOf i).toNat)
 case atStart => exact ⟨0, _, by omega, rfl, hT0, hR0, hB0, hp1⟩
 case round =>
  clear hT0 hR0 hB0 hp1
  obtain ⟨k, S, hk, rfl, hT, hR, hbel, hp1⟩ := hrel
  by_cases hlt : k < n
  ·have hkn : (k : Int) < n := by omega
   have h1 := h3.below (by rw [← HP.out]; exact hbel)
   obtain ⟨b1, o1, rfl, _, q1⟩ := h1.at_ hlt
   have hg := HRI.out k hlt
   obtain ⟨a, ha⟩ : ∃ a : Nat, gi l k = a := ⟨(gi l k).toNat, by omega⟩
   rw [ha] at q1
   have ha16 : (a : Int) < 16 := by omega
   have hc := hT.cell (19 + a)
   rw [List.getElem?_toArray, tabL_row (by omega)] at hc
   have hf := hT.frozen (19 + a)
   have hcl := cL_le l a k
   have HR := Lib.hid hR
   have HT := Lib.hid hT
   have HA := Lib.hid ha
   have hc' : (wr.alloc (.cells #[.int .i64 (k : Int)] 3)).cell? ⟨p, 19 + a, none⟩ = some (S a) := by rw [World.cell?_alloc_lt _ _ _ (by show p < wr.heap.size; omega)]; exact hc
   clear hR hT ha
   go_wp2
   go_region_law ((refine step_append_lies _ (by rfl) (.tmp 38) (.tmp 40) 49 (by rfl) (p + 1) 3 i0 (.int .i64 0) 1 8 Tryz.underlying49 hi hz0 hz1 hz2 rfl (by decide) (S a) (cL l a k) (iC (symL l a k)) (by rfl) (((HR.out.own a (by omega)).alloc _).drew) ⟨wr.heap.size, 0, none⟩ 1 1 [.int .i64 k] (by rfl) rfl (one_cell wr _ _) (by intro u hu; simp at hu; subst hu; rfl) (by decide) (by unfold maxLen; omega) (by omega) (by simp; omega) (wr.heap.size + 1) (by simp) ?_; intro g cap' w1 hown1 hg1 hat1 hlt1; have hblk1 := Blk.kept ((HT.out.below HT.out.lt ((Below.refl _ wr).alloc (Nat.le_refl _) (.cells #[.int .i64 k] 3))).drew) hg1 ⟨by simp; omega, fun e => by have := ((HR.out.own a (by omega)).lt p e).1; omega⟩; have d0 := hblk1.cell (19 + a); have g0 := hblk1.frozen (19 + a); rw [List.getElem?_toArray, tabL_row (by omega)] at d0))
   all_goals
    have hT2 : Blk (w1.setCell ⟨p, 19 + a, none⟩ (.slice (some ⟨g, 0, none⟩) (cL l a k + 1) cap')) p 126 (tabL (.slice (some ⟨gc, 0, none⟩) n n) (.slice LA n lc) (fK l n) (fun j => if j = a then .slice (some ⟨g, 0, none⟩) (cL l a k + 1) cap' else S j) (mxL l k)).toArray := by
     have h1 := hblk1.set_ (19 + a) (.slice (some ⟨g, 0, none⟩) (cL l a k + 1) cap')
     rw [List.setIfInBounds_toArray, tabL_set_row (by omega)] at h1
     exact h1
    have hR2 := Lib.hid ((RowsIn.step ((HR.out.alloc (.cells #[.int .i64 (k : Int)] 3)).drewN 1) HA.out (by omega) hown1 hg1 (by simpa using hat1)).setP (19 + a) (.slice (some ⟨g, 0, none⟩) (cL l a k + 1) cap'))
    have hbel2 : Below p w3 (w1.setCell ⟨p, 19 + a, none⟩ (.slice (some ⟨g, 0, none⟩) (cL l a k + 1) cap')) := by
     refine ((((hbel.alloc (by omega) (.cells #[.int .i64 (k : Int)] 3))).drew).grown hg1 (by simp; omega) (fun x hx => ?_)).setCell (Nat.le_refl _) _
     have := ((HR.out.own a (by omega)).lt x hx).1
     omega
    have hs2 : p + 1 ≤ (w1.setCell ⟨p, 19 + a, none⟩ (.slice (some ⟨g, 0, none⟩) (cL l a k + 1) cap')).heap.size := by
     have h1 := hg1.size
     simp [World.setCell] at h1 ⊢
     omega
    clear hown1 hg1 hat1 hlt1 hblk1 d0 g0 hbel hp1 hc hc' hf
    generalize w1.setCell ⟨p, 19 + a, none⟩ (.slice (some ⟨g, 0, none⟩) (cL l a k + 1) cap') = W2 at *
    have c35 := hT2.cell 35
    rw [List.getElem?_toArray, tabL_most] at c35
    have f35 := hT2.frozen 35
    have hst := Lib.hid (hT2.set_ 35 (.int .i64 ((mxL l (k + 1) : Nat) : Int)))
    have hmx : Hid (mxL l (k + 1) = max (mxL l k) a) := by unfold Hid; rw [mxL, show lnN l k = a by have := HA.out; unfold lnN; omega]
    rw [hmx.out] at hst
    obtain ⟨x, hx⟩ : ∃ x, x = mxL l k := ⟨_, rfl⟩
    have HX := Lib.hid hx
    rw [← hx] at c35 hst
    clear hx hT2
    go_wp2
    go_roundw
    case rel =>
     have e1 : (max (x : Int) (a : Int)) = ((max x a : Nat) : Int) := by omega
     refine ⟨k + 1, _, by omega, by go_num, ?_, hR2.out.setP 35 _, hbel2.setCell (Nat.le_refl _) _, by simpa [World.setCell] using hs2⟩
     have h1 := hst.out
     rw [List.setIfInBounds_toArray, tabL_set_most] at h1
     rw [e1, hmx.out, ← HX.out]
     exact h1
    case measure => simp [intOf]; omega
  ·obtain rfl : k = n := by omega
   have hB3 : Below w.heap.size w wr := hb13.trans (hbel.mono (by have := hb13.size; have := HP.out; omega))
   have hTI : TabIn wr p k l gc LA lc S := by
    have hk3 : w3.heap.size ≤ p := by have := HP.out; omega
    have hbw : Below w3.heap.size w3 wr := hbel.mono hk3
    refine ⟨hT, fun i hi => ?_, ?_, fun j hj => ?_, HFX.out, fun j hj g hg => ((hR.own j hj).lt g hg).2⟩
    ·have h1 := own_below hcod3 hbw
     refine ⟨(h1.lt gc rfl).2, ?_⟩
     rw [h1.cellAt i (by omega), us_at _ hi]
    ·exact IRow.ofOwn (own_below hlen3 hbw) h3.wf (by unfold maxLen; omega)
    ·have h1 := hR.own j hj
     obtain ⟨O, c, hv, _⟩ := own_shape h1
     refine ⟨O, c, hv, fun i hi hij => ?_⟩
     rw [hv] at h1
     have h2 : cL l j i < cL l j k := cL_lt hij hi
     obtain ⟨g, cap, hv2, _, hgl⟩ := h1.form (by omega)
     injection hv2 with hv3 _ hv4
     subst hv3 hv4
     refine ⟨g, rfl, hgl, ?_⟩
     rw [h1.cellAt _ (by omega)]
     unfold iC
     rw [List.getElem?_map, symL_at hij hi]
     rfl
   have hLO : TabLo w.heap.size p gc LA S := by
    have hp := HP.out
    have hs := hb13.size
    refine ⟨by omega, (hcod3.lt gc rfl).1, fun b o e => ?_, fun j hj g hg => by have := ((hR.own j hj).lt g hg).1; omega⟩
    subst e
    exact HLO.out _ (hlen3.lt b rfl).1
   have HTI := Lib.hid (And.intro hTI hLO)
   clear hT hR hbel hcod3 hlen3 hb13 hTI hLO
   go_wp2
   go_ret2
   exact ⟨p, gc, LA, lc, S, rfl, HTI.out.1, HTI.out.2, hB3⟩
end
section
open Go.RowKit
set_option maxRecDepth 100000
set_option linter.unusedVariables false
def codeAt (l : List Int) (s : Int) : Nat := if 0 ≤ s ∧ s < l.length then codeN l s.toNat else 0
def lenAt (l : List Int) (s : Int) : Nat := if 0 ≤ s ∧ s < l.length then lnN l s.toNat else 0
section
variable {w : World} {p n : Nat} {l : List Int} {gc : Nat} {LA : Option Addr} {lc : Nat} {S : Nat → Value}
set_option maxHeartbeats 1000000 in
theorem CodeT_c (h : TabIn w p n l gc LA lc S) (s : Int) : Calls Tryz.prog 32 #[.pointer (some ⟨p, 0, none⟩), .int .i64 s] w fun e w' => e = .returned (.tuple #[.int .u32 (codeAt l s), .int .i64 (lenAt l s)]) ∧ ∃ q, w' = w.drewN q := by
 have c0 := h.blk.cell 0
 have c1 := h.blk.cell 1
 simp [tabL] at c0 c1
 have hlen := h.ok.len
 have hn := h.ok.few
 by_cases h0 : s < 0
 ·have h1 : Hid (codeAt l s = 0) := if_neg (by omega)
  have h2 : Hid (lenAt l s = 0) := if_neg (by omega)
  go_enter Tryz.func32, Tryz.ntmps32
  go_wp2
  go_ret2
  rw [h1.out, h2.out]
  exact ⟨rfl, 0, rfl⟩
 ·by_cases h3 : (n : Int) ≤ s
  ·have h1 : Hid (codeAt l s = 0) := if_neg (by omega)
   have h2 : Hid (lenAt l s = 0) := if_neg (by omega)
   clear hlen
   go_enter Tryz.func32, Tryz.ntmps32
   go_wp2
   go_ret2
   rw [h1.out, h2.out]
   exact ⟨rfl, 0, rfl⟩
  ·obtain ⟨i, rfl⟩ : ∃ i : Nat, s = i := ⟨s.toNat, by omega⟩
   have hi : i < n := by omega
   have h1 : Hid (codeAt l i = codeN l i) := by unfold Hid codeAt; rw [if_pos (by omega)]; rfl
   have h2 : Hid (((lenAt l i : Nat) : Int) = gi l i) := by
    unfold Hid lenAt
    rw [if_pos (by omega)]
    exact (lnN_int h.ok.right (by omega)).1
   obtain ⟨hg, hc⟩ := h.codes i hi
   obtain ⟨b1, o1, rfl, _, q1⟩ := h.lens.at_ hi
   have hin : (i : Int) < (n : Int) := by omega
   clear hlen h3 h0
   rw [h1.out, h2.out]
   generalize codeN l i = x at *
   generalize gi l i = y at *
   go_enter Tryz.func32, Tryz.ntmps32
   go_wp2
   go_quiet (fail)
   go_wp2
   go_ret2
   exact ⟨rfl, nq, rfl⟩
theorem cv_step (b : Nat → Bool) (a n : Nat) (hn : n ≤ 15) : bits BinOp.or IntKind.u32 (((cv b a n : Nat) : Int) * 2 % 4294967296) (((b (a + n)).toNat : Nat) : Int) = ((cv b a (n + 1) : Nat) : Int) := by
 have h1 := cv_lt b a n
 have h2 : 2 ^ n ≤ 2 ^ 15 := Nat.pow_le_pow_right (by decide) hn
 have h3 : (2 : Nat) ^ 15 = 32768 := rfl
 have h4 := Bool.toNat_le (b (a + n))
 rw [show ((cv b a n : Nat) : Int) * 2 % 4294967296 = ((2 * cv b a n : Nat) : Int) by omega, u32_or_nat _ _ (by omega) (by omega)]
 show _ = ((2 * cv b a n + (b (a + n)).toNat : Nat) : Int)
 congr 1
 rw [show 2 * cv b a n = cv b a n <<< 1 by rw [Nat.shiftLeft_eq]; omega, ← Nat.shiftLeft_add_eq_or_of_lt (by omega : (b (a + n)).toNat < 2 ^ 1)]
theorem numB_one (bl : List F) (a : Nat) : numB bl a 1 = (rb bl a).toNat := by
 unfold numB bsN bsN
 cases rb bl (a + 0) <;> simp_all
structure FarT (r p n gc : Nat) (LA : Option Addr) (S : Nat → Value) : Prop where
 tab : p ≠ r
 cod : 0 < n → gc ≠ r
 len : 0 < n → ∀ b o, LA = some ⟨b, o, none⟩ → b ≠ r
 row : ∀ j, j < 16 → (S j).ownBlock ≠ some r
theorem own_block_at {O : Option Addr} {n c g : Nat} (h : O = some ⟨g, 0, none⟩) : (Value.slice O n c).ownBlock = some g := by subst h; rfl
theorem TabIn.out {w' : World} {r : Nat} (h : TabIn w p n l gc LA lc S) (hf : FarT r p n gc LA S) (ho : Out r (r + 1) w w') : TabIn w' p n l gc LA lc S := by
 have hs := ho.size
 refine ⟨?_, fun i hi => ?_, ?_, fun j hj => ?_, h.ok, fun j hj g hg => by have := h.held j hj g hg; omega⟩
 ·have h1 := h.blk
  have h2 := h1.lt
  unfold Blk at h1 ⊢
  rw [ho.block p h2 (by have := hf.tab; omega)]
  exact h1
 ·obtain ⟨h1, h2⟩ := h.codes i hi
  refine ⟨by omega, ?_⟩
  rw [World.cell?_of_block (a := ⟨gc, i, none⟩) (ho.block gc h1 (by have := hf.cod (by omega); omega))]
  exact h2
 ·refine ⟨h.lens.len, h.lens.max, fun hn => ?_, h.lens.wf⟩
  obtain ⟨b, off, e, hl, hc⟩ := h.lens.cells hn
  refine ⟨b, off, e, by omega, fun i hi => ?_⟩
  rw [World.cell?_of_block (a := ⟨b, off + i, none⟩) (ho.block b hl (by have := hf.len hn b off e; omega))]
  exact hc i hi
 ·obtain ⟨O, c, h1, h2⟩ := h.rows j hj
  refine ⟨O, c, h1, fun i hi hij => ?_⟩
  obtain ⟨g, h3, h4, h5⟩ := h2 i hi hij
  refine ⟨g, h3, by omega, ?_⟩
  have hg : g ≠ r := fun e => hf.row j hj (by rw [h1, own_block_at h3, e])
  rw [World.cell?_of_block (a := ⟨g, cL l j i, none⟩) (ho.block g h4 (by omega))]
  exact h5
theorem TabIn.far {r : Nat} (h : TabIn w p n l gc LA lc S) (hr : w.heap.size ≤ r) : FarT r p n gc LA S := by
 refine ⟨by have := h.blk.lt; omega, fun hn => by have := (h.codes 0 hn).1; omega, fun hn b o e => ?_, fun j hj e => by have := h.held j hj r e; omega⟩
 obtain ⟨b', off, e2, hl, _⟩ := h.lens.cells hn
 rw [e] at e2
 injection e2 with e2
 injection e2 with e2
 omega
theorem mx_le {l : List Int} (h : RightL l) : mxL l l.length ≤ 15 := by
 by_cases h0 : 0 < mxL l l.length
 ·obtain ⟨i, hi, e⟩ := mxL_at l h0
  have := (lnN_int h hi).2
  omega
 ·omega
set_option maxHeartbeats 4000000 in
theorem ReadT_c {r : Nat} {A : Option Addr} {len cap at_ : Nat} {bl : List F} (h : TabIn w p n l gc LA lc S) (hr : RdB w r A len cap bl at_) (hfar : FarT r p n gc LA S) :
  Calls Tryz.prog 37 #[.pointer (some ⟨p, 0, none⟩), .pointer (some ⟨r, 0, none⟩)] w fun e w' => ∃ s k er : Nat, e = .returned (.tuple #[.int .i64 s, .int .i64 er]) ∧ RdS l (rb bl) (8 * len) at_ s k er ∧ RdB w' r A len cap bl (at_ + k) ∧ Out r (r + 1) w w' := by
 have hlen := h.ok.len
 have hn := h.ok.few
 have hri := h.ok.right
 have hmx := mx_le hri
 have HF := Lib.hid hfar
 have H := Lib.hid h
 have HR := Lib.hid hr
 have HLEN := Lib.hid hlen
 rw [hlen] at hmx
 have HFS : Hid (∀ j, j ≤ 15 → fK l n j + cN l n j ≤ 4718592) := by unfold Hid; rw [← hlen]; exact fun j hj => fK_small hri (by omega) j hj
 clear h hr hfar hlen hri
 go_enter Tryz.func37, Tryz.ntmps37
 go_wp2
 go_loopw [6, 7] (fun cd i wr => ∃ m : Nat, 1 ≤ m ∧ m ≤ mxL l n + 1 ∧ i = .int .i64 m ∧ cd = .int .u32 ((cv (rb bl) at_ (m - 1) : Nat) : Int) ∧ RdB wr r A len cap bl (at_ + (m - 1)) ∧ Out r (r + 1) w wr ∧ Hid (∀ k, 1 ≤ k → k < m → fK l n k + cN l n k ≤ cv (rb bl) at_ k)) (fun _ i _ => 17 - (intOf i).toNat)
 case atStart => exact ⟨1, by omega, by omega, rfl, rfl, HR.out, Out.refl _ _ _, fun k h1 h2 => by omega⟩
 case round =>
  obtain ⟨m, hm1, hm2, rfl, rfl, hrd, hout, hno⟩ := hrel
  obtain ⟨m', hm'⟩ : ∃ m', m = m' + 1 := ⟨m - 1, by omega⟩
  have hT := H.out.out HF.out hout
  have c35 := hT.blk.cell 35
  rw [List.getElem?_toArray, tabL_most] at c35
  have e1 : m - 1 = m' := by omega
  rw [e1] at hrd ⊢
  have HM := Lib.hid hm'
  by_cases hle : m ≤ mxL l n
  ·obtain ⟨M, hM⟩ : ∃ M, M = mxL l n := ⟨_, rfl⟩
   rw [← hM] at c35 hle hmx
   have hmi : (m : Int) ≤ (M : Int) := by omega
   have HMX := Lib.hid hM
   clear hM
   by_cases hbit : at_ + m' + 1 ≤ 8 * len
   ·have hb := BitR_ok hrd hbit
    rw [numB_one] at hb
    have HB := Lib.hid hb
    have hcs := cv_step (rb bl) at_ m' (by omega)
    have hfge : fK l n m ≤ cv (rb bl) at_ (m' + 1) := by
     have h1 : fK l n m = 2 * (fK l n m' + cN l n m') := by rw [hm']; rfl
     have h2 : cv (rb bl) at_ (m' + 1) = 2 * cv (rb bl) at_ m' + (rb bl (at_ + m')).toNat := rfl
     by_cases h0 : 1 ≤ m'
     ·have := hno.out m' h0 (by omega)
      omega
     ·obtain rfl : m' = 0 := by omega
      have : fK l n 0 + cN l n 0 = 0 := rfl
      omega
    have hcvl := cv_lt (rb bl) at_ (m' + 1)
    have hp := Nat.pow_le_pow_right (n := 2) (by decide) (show m' + 1 ≤ 15 by omega)
    obtain ⟨y, hy⟩ : ∃ y, y = cv (rb bl) at_ (m' + 1) := ⟨_, rfl⟩
    obtain ⟨x, hx⟩ : ∃ x, x = cv (rb bl) at_ m' := ⟨_, rfl⟩
    obtain ⟨z, hz⟩ : ∃ z, z = (rb bl (at_ + m')).toNat := ⟨_, rfl⟩
    obtain ⟨f, hf⟩ : ∃ f, f = fK l n m := ⟨_, rfl⟩
    rw [← hy] at hcs hfge hcvl
    rw [← hx, ← hz] at hcs
    rw [← hz] at HB
    rw [← hf] at hfge
    rw [← hx]
    have HY := Lib.hid hy
    have HFm := Lib.hid hf
    obtain ⟨O, c, hS, hrow⟩ := hT.rows m (by omega)
    have HROW := Lib.hid hrow
    have HS := Lib.hid hS
    have hcl := cL_le l m n
    clear hy hx hz hf hT hrow hS hrd hm'
    have hm16 : (m : Int) < 16 := by omega
    have hm17 : (m : Int) < 17 := by omega
    have h32 : y ≤ 32768 := by omega
    obtain ⟨d, hd⟩ : ∃ d, y = f + d := ⟨y - f, by omega⟩
    have hsub : (y : Int) - (f : Int) = (d : Int) := by omega
    have hcn : cN l n m = cL l m n := if_neg (by omega)
    by_cases hhit : d < cL l m n
    ·obtain ⟨i, hi, hij, hci⟩ := cL_at hhit
     obtain ⟨g, hg1, hg2, hg3⟩ := HROW.out i hi hij
     rw [hci] at hg3
     have hHit : Hid (RdS l (rb bl) (8 * len) at_ i m 0) := by
      have h1 : lnN l i = m := by unfold lnN; omega
      refine ⟨fun k h2 h3 => by rw [HLEN.out]; exact hno.out k h2 h3, .inl ⟨rfl, hm1, by have := HM.out; omega, by rw [HLEN.out]; exact hi, hij, ?_⟩⟩
      rw [HM.out, ← HY.out]
      unfold codeN
      rw [if_neg (by omega), h1, hci, HLEN.out, ← HFm.out]
      exact hd
     have hdi : (d : Int) < ((cL l m n : Nat) : Int) := by omega
     have HG : Hid (∀ W, Out r (r + 1) wr W → W.cell? ⟨g, d, none⟩ = some (.int .i64 (i : Int))) := fun W ho => by
      rw [World.cell?_of_block (a := ⟨g, d, none⟩) (ho.block g hg2 (by
       have h1 := HF.out.row m (by omega)
       rw [HS.out, own_block_at hg1] at h1
       by_cases e : g = r
       ·exact absurd (by rw [e]) h1
       ·omega))]
      exact hg3
     have hres : Hid (∀ W, RdB W r A len cap bl (at_ + m' + 1) → RdB W r A len cap bl (at_ + m)) := fun W h => by rw [show at_ + m = at_ + m' + 1 by have := HM.out; omega]; exact h
     subst hg1
     clear hg3 hci hij hi hhit hd hcn HROW
     go_wp2_with (go_at_call 82; refine HB.out.mono ?_; rintro e w2 ⟨rfl, hrd2, hout2⟩; have hout12 := hout.trans hout2; have hT2 := H.out.out HF.out hout12; have q35 := hT2.blk.cell 35; have qf := hT2.blk.cell (2 + m); have qr := hT2.blk.cell (19 + m); rw [List.getElem?_toArray, tabL_most] at q35; rw [List.getElem?_toArray, tabL_first (by omega), ← HFm.out] at qf; rw [List.getElem?_toArray, tabL_row (by omega), HS.out] at qr; clear hT2; have qg := HG.out _ hout2)
     go_ret2
     exact ⟨i, m, 0, rfl, hHit.out, hres.out _ hrd2, hout12⟩
    ·have hdi : ¬ (d : Int) < ((cL l m n : Nat) : Int) := by omega
     have hYm : Hid (y = cv (rb bl) at_ m) := by unfold Hid; rw [HY.out, HM.out]
     have hno2 : Hid (∀ k, 1 ≤ k → k < m + 1 → fK l n k + cN l n k ≤ cv (rb bl) at_ k) := fun k h1 h2 => by
      by_cases e : k = m
      ·subst e
       rw [hcn, ← HFm.out, ← hYm.out]
       omega
      ·exact hno.out k h1 (by omega)
     clear hhit hd hcn HROW
     go_wp2_with (go_at_call 82; refine HB.out.mono ?_; rintro e w2 ⟨rfl, hrd2, hout2⟩; have hout12 := hout.trans hout2; have hT2 := H.out.out HF.out hout12; have q35 := hT2.blk.cell 35; have qf := hT2.blk.cell (2 + m); have qr := hT2.blk.cell (19 + m); rw [List.getElem?_toArray, tabL_most] at q35; rw [List.getElem?_toArray, tabL_first (by omega), ← HFm.out] at qf; rw [List.getElem?_toArray, tabL_row (by omega), HS.out] at qr; clear hT2)
     go_roundw
     case rel => exact ⟨m + 1, by omega, by have := HMX.out; omega, by go_num, by rw [show m + 1 - 1 = m by omega, ← hYm.out], by rw [show at_ + (m + 1 - 1) = at_ + m' + 1 by have := HM.out; omega]; exact hrd2, hout12, hno2⟩
     case measure => have := HMX.out; simp [intOf]; omega
   ·have hb := BitR_no hrd (by omega)
    have HB := Lib.hid hb
    have hres : Hid (RdS l (rb bl) (8 * len) at_ 0 m' 20) := by
     refine ⟨fun k h2 h3 => by rw [HLEN.out]; exact hno.out k h2 (by omega), .inr (.inl ⟨rfl, rfl, by rw [HLEN.out]; have := HMX.out; omega, by have := hrd.le; omega, fun h1 => by rw [HLEN.out]; exact hno.out m' h1 (by omega)⟩)⟩
    clear hb hT hm'
    go_wp2_with (go_at_call 82; refine HB.out.mono ?_; rintro e w2 ⟨rfl, hrd2, hout2⟩; have hout12 := hout.trans hout2)
    go_ret2
    exact ⟨0, m', 20, rfl, hres.out, hrd2, hout12⟩
  ·have hmi : ¬ (m : Int) ≤ (mxL l n : Int) := by omega
   have hres : Hid (RdS l (rb bl) (8 * len) at_ 0 m' 34) := by
    refine ⟨fun k h2 h3 => by rw [HLEN.out]; exact hno.out k h2 (by omega), .inr (.inr ⟨rfl, rfl, by rw [HLEN.out]; omega, by have := hrd.le; omega, fun h1 => by rw [HLEN.out]; exact hno.out m' h1 (by omega)⟩)⟩
   clear hT hm' hle
   go_wp2
   go_ret2
   exact ⟨0, m', 34, rfl, hres.out, hrd, hout⟩
end
end
end Go.Proofs.YtldgdofefcehnaaGreatDoor
