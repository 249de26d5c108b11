/-
  THE CONTRACTS OF block's begin (a writer that is one). No conditions.
  A TABLE OF CODES BESIDE A WRITER; a symbol that is put. No conditions.
  TOKENS THAT ARE PUT: the contract of codes.put. No conditions.
-/
import Derived.Test.YtldgdofefcehnaaGreatDoorBlk
import Derived.Test.YtldgdofefcehnaaGreatDoorBits
import Derived.Test.YtldgdofefcehnaaGreatDoorCanE
import Derived.Test.YtldgdofefcehnaaGreatDoorSym
namespace Go.Proofs.YtldgdofefcehnaaGreatDoor
section
open Go.RowKit
set_option maxRecDepth 1000000
set_option linter.unusedVariables false
def headB (last : Bool) (kind : Nat) : List Bool := last :: putB kind 2
theorem putB_one (last : Bool) : putB (if last then 1 else 0) 1 = [last] := by cases last <;> rfl
set_option maxHeartbeats 1000000 in
theorem begin_c {w : World} {p : Nat} {A : Option Addr} {len cap n : Nat} {X : List Bool} (h : Wr w p A len cap n X) (kind : Nat) (hk : kind < 4294967296) (last : Bool) (hroom : n + 64 ≤ 1000000) :
  Calls Tryz.prog 61 #[.pointer (some ⟨p, 0, none⟩), .int .u32 kind, .bool last] w fun e w' => e = .returned (.pointer (some ⟨p, 0, none⟩)) ∧ ∃ A' len' cap', Wr w' p A' len' cap' (n + 3) (X ++ headB last kind) ∧ WOut p (Value.slice A len cap).ownBlock (Value.slice A' len' cap').ownBlock w w' := by
 have H := Lib.hid h
 clear h
 cases last
 ·go_enter Tryz.func61, Tryz.ntmps61
  go_wp2_with fail
  refine (PutB_c H.out 0 (by omega) 1 (by omega)).mono ?_
  rintro e w2 ⟨rfl, A2, len2, cap2, hW2, hO2⟩
  rw [show heldN 1 32 = 1 from rfl, show putB 0 1 = [false] from rfl] at hW2
  have HW := Lib.hid hW2
  have HO := Lib.hid hO2
  clear hW2 hO2
  go_wp2_with fail
  refine (PutB_c HW.out kind hk 2 (by omega)).mono ?_
  rintro e w3 ⟨rfl, A3, len3, cap3, hW3, hO3⟩
  rw [show heldN 2 32 = 2 from rfl, List.append_assoc] at hW3
  go_wp2
  go_ret
  exact ⟨rfl, A3, len3, cap3, hW3, HO.out.trans hO3⟩
 ·go_enter Tryz.func61, Tryz.ntmps61
  go_wp2_with fail
  refine (PutB_c H.out 1 (by omega) 1 (by omega)).mono ?_
  rintro e w2 ⟨rfl, A2, len2, cap2, hW2, hO2⟩
  rw [show heldN 1 32 = 1 from rfl, show putB 1 1 = [true] from rfl] at hW2
  have HW := Lib.hid hW2
  have HO := Lib.hid hO2
  clear hW2 hO2
  go_wp2_with fail
  refine (PutB_c HW.out kind hk 2 (by omega)).mono ?_
  rintro e w3 ⟨rfl, A3, len3, cap3, hW3, hO3⟩
  rw [show heldN 2 32 = 2 from rfl, List.append_assoc] at hW3
  go_wp2
  go_ret
  exact ⟨rfl, A3, len3, cap3, hW3, HO.out.trans hO3⟩
theorem Wr.ob {w : World} {p : Nat} {A : Option Addr} {len cap n : Nat} {X : List Bool} (h : Wr w p A len cap n X) : ∀ g, (Value.slice A len cap).ownBlock = some g → p + 1 ≤ g := fun g hg => (h.own.lt g hg).1
theorem Wr.keeps {w0 w w' : World} {p : Nat} {A : Option Addr} {len cap n : Nat} {X : List Bool} {b : Option Nat} (h : Wr w p A len cap n X) (hO : WOut p (Value.slice A len cap).ownBlock b w w') (hb : Below w0.heap.size w0 w) (hp : w0.heap.size ≤ p) : Below w0.heap.size w0 w' :=
 hb.trans (hO.below hp hb.size fun g hg => by have := h.ob g hg; omega)
theorem xorMax (m : Nat) (h : m < two64) : bits .xor .u64 IntKind.u64.max (m : Int) = ((two64 - 1 - m : Nat) : Int) := by
 show IntKind.u64.wrap ((BitVec.ofInt 64 IntKind.u64.max ^^^ BitVec.ofInt 64 (m : Int)).toNat : Int) = _
 have e1 : BitVec.ofInt 64 IntKind.u64.max = BitVec.allOnes 64 := by decide +kernel
 rw [e1, BitVec.allOnes_xor, BitVec.toNat_not, BitVec.ofInt_natCast, BitVec.toNat_ofNat, Nat.mod_eq_of_lt (by unfold two64 at h; omega)]
 unfold two64 at h ⊢
 have e2 : 2 ^ 64 - 1 - m = 18446744073709551616 - 1 - m := rfl
 rw [e2]
 exact IntWalk.u64_in _ (by omega)
theorem putL_not {m : Nat} (h : m ≤ 65535) : putL (two64 - 1 - m) 2 = putL (65535 - m) 2 := by
 have e : ∀ v, putL v 2 = [ofN (v / 256 ^ 0 % 256), ofN (v / 256 ^ 1 % 256)] := fun v => rfl
 rw [e, e]
 unfold two64
 have e1 : (18446744073709551616 - 1 - m) / 256 ^ 0 % 256 = (65535 - m) / 256 ^ 0 % 256 := by simp only [Nat.pow_zero, Nat.div_one]; omega
 have e2 : (18446744073709551616 - 1 - m) / 256 ^ 1 % 256 = (65535 - m) / 256 ^ 1 % 256 := by simp only [Nat.pow_one]; omega
 rw [e1, e2]
theorem alB_al (X : List Bool) (h : X.length % 8 = 0) : alB X = X := by
 unfold alB
 rw [show 8 * ((X.length + 7) / 8) - X.length = 0 by omega]
 simp
def stoB (X : List Bool) (l : List F) (last : Bool) : List Bool := alB (X ++ headB last 0) ++ bitsOf (putL l.length 2) ++ bitsOf (putL (65535 - l.length) 2) ++ bitsOf l
set_option maxHeartbeats 2000000 in
theorem Stored_j {w : World} {p : Nat} {A : Option Addr} {len cap n : Nat} {X : List Bool} (h : Wr w p A len cap n X) (B : Option Addr) (m cb : Nat) (l : List F) (hJ : ∀ W b, WOut p (Value.slice A len cap).ownBlock b w W → RowIn W B m cb l) (hm : m ≤ 65535) (last : Bool) (hroom : n + 8 * m + 200 ≤ 1000000) :
  Calls Tryz.prog 99 #[.pointer (some ⟨p, 0, none⟩), .slice B m cb, .bool last] w fun e w' => e = .returned (.int .i64 0) ∧ ∃ A' len' cap' n', Wr w' p A' len' cap' n' (stoB X l last) ∧ WOut p (Value.slice A len cap).ownBlock (Value.slice A' len' cap').ownBlock w w' := by
 have H := Lib.hid h
 have HJ := Lib.hid hJ
 have hnm := (hJ w _ (WOut.refl _ _ _)).row.max
 have HLN := Lib.hid (hJ w _ (WOut.refl _ _ _)).row.len
 clear h hJ
 have h1 : ¬ (65535 : Int) < (m : Int) := by omega
 go_enter Tryz.func99, Tryz.ntmps99
 go_wp2_with fail
 refine (begin_c H.out 0 (by omega) last (by omega)).mono ?_
 rintro e w2 ⟨rfl, A2, len2, cap2, hW2, hO2⟩
 have H8 := hW2.at8
 have HW2 := Lib.hid hW2
 have HO2 := Lib.hid hO2
 clear hW2 hO2
 go_wp2_with fail
 refine (Put_c m (by unfold two64; omega) 2 w2).mono ?_
 rintro e w3 ⟨g3, rfl, hown3, hb3⟩
 rw [show heldN 2 8 = 2 from rfl] at hown3 ⊢
 have HR3 := Lib.hid (Row.of_own hown3)
 have HW3 := Lib.hid (HW2.out.below hb3)
 have HO3 : Hid (WOut p (Value.slice A2 len2 cap2).ownBlock (Value.slice A2 len2 cap2).ownBlock w2 w3) := ⟨hb3.os, hb3.tape, hb3.output, hb3.size, fun k hk _ _ => hb3.block k hk, .inl rfl⟩
 clear hown3 hb3
 go_wp2_with fail
 refine (BytesB_c HW3.out _ 2 2 (putL m 2) HR3.out (by omega)).mono ?_
 rintro e w4 ⟨rfl, A4, len4, cap4, hW4, hO4⟩
 have HW4 := Lib.hid hW4
 have HO4 := Lib.hid ((HO2.out.trans HO3.out).trans hO4)
 clear hW4 hO4 HR3 HW3 HO3 HW2
 go_wp2_with fail
 have ex := xorMax m (by unfold two64; omega)
 rw [ex]
 refine (Put_c (two64 - 1 - m) (by unfold two64; omega) 2 w4).mono ?_
 rintro e w5 ⟨g5, rfl, hown5, hb5⟩
 rw [show heldN 2 8 = 2 from rfl, putL_not hm] at hown5
 rw [show heldN 2 8 = 2 from rfl]
 have HR5 := Lib.hid (Row.of_own hown5)
 have HW5 := Lib.hid (HW4.out.below hb5)
 have HO5 : Hid (WOut p (Value.slice A4 len4 cap4).ownBlock (Value.slice A4 len4 cap4).ownBlock w4 w5) := ⟨hb5.os, hb5.tape, hb5.output, hb5.size, fun k hk _ _ => hb5.block k hk, .inl rfl⟩
 have H9 := HW4.out.at8
 clear hown5 hb5 ex
 go_wp2_with fail
 refine (BytesB_c HW5.out _ 2 2 (putL (65535 - m) 2) HR5.out (by omega)).mono ?_
 rintro e w6 ⟨rfl, A6, len6, cap6, hW6, hO6⟩
 have HW6 := Lib.hid hW6
 have HO6 := Lib.hid ((HO4.out.trans HO5.out).trans hO6)
 have H10 := hW6.at8
 clear hW6 hO6 HR5 HW5 HO5 HW4
 go_wp2_with fail
 refine (BytesB_c HW6.out B m cb l (HJ.out w6 _ HO6.out).row (by omega)).mono ?_
 rintro e w7 ⟨rfl, A7, len7, cap7, hW7, hO7⟩
 have hml := HLN.out
 have e9 : alB (alB (alB (X ++ headB last 0) ++ bitsOf (putL m 2)) ++ bitsOf (putL (65535 - m) 2)) ++ bitsOf l = stoB X l last := by
  unfold stoB
  rw [hml, alB_al (alB (X ++ headB last 0) ++ bitsOf (putL m 2)) (by rw [List.length_append, alB_length, bitsOf_length, putL_length]; omega),
   alB_al (alB (X ++ headB last 0) ++ bitsOf (putL m 2) ++ bitsOf (putL (65535 - m) 2)) (by rw [List.length_append, List.length_append, alB_length, bitsOf_length, bitsOf_length, putL_length, putL_length]; omega)]
 rw [e9] at hW7
 have HW7 := Lib.hid hW7
 have HO7 := Lib.hid (HO6.out.trans hO7)
 clear hW7 hO7 e9
 go_wp2
 go_ret
 exact ⟨rfl, A7, len7, cap7, _, HW7.out, HO7.out⟩
theorem Stored_c {w0 w : World} {p : Nat} {A : Option Addr} {len cap n : Nat} {X : List Bool} (h : Wr w p A len cap n X) (B : Option Addr) (m cb : Nat) (l : List F) (hl : RowIn w0 B m cb l) (hb : Below w0.heap.size w0 w) (hp : w0.heap.size ≤ p) (hm : m ≤ 65535) (last : Bool) (hroom : n + 8 * m + 200 ≤ 1000000) :
  Calls Tryz.prog 99 #[.pointer (some ⟨p, 0, none⟩), .slice B m cb, .bool last] w fun e w' => e = .returned (.int .i64 0) ∧ ∃ A' len' cap' n', Wr w' p A' len' cap' n' (stoB X l last) ∧ WOut p (Value.slice A len cap).ownBlock (Value.slice A' len' cap').ownBlock w w' :=
 Stored_j h B m cb l (fun W b ho => hl.below (h.keeps ho hb hp)) hm last hroom
end
section
open Go.RowKit
set_option maxRecDepth 1000000
set_option linter.unusedVariables false
theorem TabIn.wout {w w' : World} {B q p n : Nat} {l : List Int} {gc : Nat} {LA : Option Addr} {lc : Nat} {S : Nat → Value} {a b : Option Nat} (h : TabIn w q n l gc LA lc S) (lo : TabLo B q gc LA S) (hO : WOut p a b w w') (hp : p < B) (ha : ∀ g, a = some g → g < B) : TabIn w' q n l gc LA lc S := by
 have hs := hO.size
 have hk : ∀ k, B ≤ k → k < w.heap.size → w'.heap[k]? = w.heap[k]? := fun k h1 h2 => hO.block k h2 (by omega) (fun e => by have := ha k e; omega)
 refine ⟨?_, fun i hi => ?_, ⟨h.lens.len, h.lens.max, fun hn => ?_, h.lens.wf⟩, fun j hj => ?_, h.ok, fun j hj g hg => by have := h.held j hj g hg; omega⟩
 ·have h1 := h.blk
  unfold Blk at h1 ⊢
  rw [hk q lo.tab h.blk.lt]
  exact h1
 ·obtain ⟨h1, h2⟩ := h.codes i hi
  exact ⟨by omega, (World.cell?_of_block (a := ⟨gc, i, none⟩) (hk gc lo.cod h1)).trans h2⟩
 ·obtain ⟨b, off, e, hl, hc⟩ := h.lens.cells hn
  exact ⟨b, off, e, by omega, fun i hi => (World.cell?_of_block (a := ⟨b, off + i, none⟩) (hk b (lo.len b off e) hl)).trans (hc i hi)⟩
 ·obtain ⟨O, c, h1, h2⟩ := h.rows j hj
  refine ⟨O, c, h1, fun i hi hij => ?_⟩
  obtain ⟨g, h3, h4, h5⟩ := h2 i hi hij
  exact ⟨g, h3, by omega, (World.cell?_of_block (a := ⟨g, cL l j i, none⟩) (hk g (lo.row j hj g (by rw [h1, h3]; rfl)) h4)).trans h5⟩
set_option maxHeartbeats 1000000 in
theorem putSymbol_c {w : World} {p : Nat} {A : Option Addr} {len cap m : Nat} {X : List Bool} (h : Wr w p A len cap m X) {B q n : Nat} {l : List Int} {gc : Nat} {LA : Option Addr} {lc : Nat} {S : Nat → Value}
  (ht : TabIn w q n l gc LA lc S) (s : Int) (hs : codeAt l s < 4294967296) (size : Int) (v : Nat) (hv : v < 4294967296) (hroom : m + 64 ≤ 1000000) :
  Calls Tryz.prog 113 #[.pointer (some ⟨p, 0, none⟩), .pointer (some ⟨q, 0, none⟩), .int .i64 s, .int .i64 size, .int .i64 v] w fun e w' => e = .returned (.tuple #[]) ∧ ∃ A' len' cap', Wr w' p A' len' cap' (m + heldN (lenAt l s) 32 + heldN size 32) (X ++ codeB (codeAt l s) (heldN (lenAt l s) 32) ++ putB v (heldN size 32)) ∧ WOut p (Value.slice A len cap).ownBlock (Value.slice A' len' cap').ownBlock w w' := by
 have H := Lib.hid h
 have HT := Lib.hid ht
 have hk1 := heldN_le (lenAt l s : Int) 32
 have HC := Lib.hid (CodeT_c ht s)
 clear h ht
 obtain ⟨cd, hcd⟩ : ∃ cd, cd = codeAt l s := ⟨_, rfl⟩
 obtain ⟨ln, hln⟩ : ∃ ln, ln = lenAt l s := ⟨_, rfl⟩
 rw [← hcd, ← hln] at HC
 rw [← hln] at hk1
 rw [← hcd] at hs
 rw [← hcd, ← hln]
 clear hcd hln
 go_enter Tryz.func113, Tryz.ntmps113
 go_wp2_with fail
 refine HC.out.mono ?_
 rintro e w2 ⟨rfl, q2, rfl⟩
 have HW2 := Lib.hid (H.out.drewN q2)
 have HO2 := Lib.hid ((WOut.refl p (Value.slice A len cap).ownBlock w).drewN q2)
 generalize w.drewN q2 = w2 at *
 go_wp2_with fail
 refine (CodeB_c HW2.out cd hs (ln : Int) (by omega)).mono ?_
 rintro e w3 ⟨rfl, A3, len3, cap3, hW3, hO3⟩
 have HW3 := Lib.hid hW3
 have HO3 := Lib.hid (HO2.out.trans hO3)
 clear hW3 hO3
 go_wp2_with fail
 refine (PutB_c HW3.out v hv size (by omega)).mono ?_
 rintro e w4 ⟨rfl, A4, len4, cap4, hW4, hO4⟩
 have HW4 := Lib.hid hW4
 have HO4 := Lib.hid (HO3.out.trans hO4)
 clear hW4 hO4
 go_wp2
 go_end0
 exact ⟨rfl, A4, len4, cap4, HW4.out, HO4.out⟩
theorem newTableB_c (A : Option Addr) (n c : Nat) (l : List Int) (w : World) (h : IRow w A n .i64 l) (he : errC l n = 0) :
  Calls Tryz.prog 112 #[.slice A n c] w fun e w' => ∃ p gc LA lc S, e = .returned (.pointer (some ⟨p, 0, none⟩)) ∧ TabIn w' p n l gc LA lc S ∧ TabLo w.heap.size p gc LA S ∧ Below w.heap.size w w' := by
 have HN := Lib.hid (New_lo A n c l w h he)
 clear h he
 go_enter Tryz.func112, Tryz.ntmps112
 go_wp2_with fail
 refine HN.out.mono ?_
 rintro e w2 ⟨p, gc, LA, lc, S, rfl, h1, h2, h3⟩
 go_wp2
 go_ret
 exact ⟨p, gc, LA, lc, S, rfl, h1, h2, h3⟩
set_option maxHeartbeats 1000000 in
theorem newCodesB_c (A : Option Addr) (n c : Nat) (l : List Int) (B : Option Addr) (m d : Nat) (k : List Int) (w : World) (h : IRow w A n .i64 l) (he : errC l n = 0) (g : IRow w B m .i64 k) (ge : errC k m = 0) :
  Calls Tryz.prog 65 #[.slice A n c, .slice B m d] w fun e w' => ∃ p gc LA lc S q hc LB ld R, e = .returned (.agg #[.pointer (some ⟨p, 0, none⟩), .pointer (some ⟨q, 0, none⟩)]) ∧ TabIn w' p n l gc LA lc S ∧ TabLo w.heap.size p gc LA S ∧ TabIn w' q m k hc LB ld R ∧ TabLo w.heap.size q hc LB R ∧ Below w.heap.size w w' := by
 have HN := Lib.hid (fun W hb => newTableB_c A n c l W (h.below hb) he)
 have HM := Lib.hid (fun W hb => newTableB_c B m d k W (g.below hb) ge)
 clear h he g ge
 go_enter Tryz.func65, Tryz.ntmps65
 go_wp2_with fail
 refine (HN.out _ ((Below.refl _ w).alloc (Nat.le_refl _) _)).mono ?_
 rintro e w2 ⟨p, gc, LA, lc, S, rfl, h1, h2, h3⟩
 rw [World.size_alloc] at h2
 have HB := Lib.hid ((Blk.new w 107 #[.pointer none, .pointer none]).below (by simp) h3)
 have HT := Lib.hid h1
 have HLO := Lib.hid h2
 have HB2 : Hid (Below w.heap.size w w2) := ((Below.refl w.heap.size w).alloc (Nat.le_refl _) (.cells #[.pointer none, .pointer none] 107)).trans (h3.mono (by simp))
 have hs2 : w.heap.size + 1 ≤ w2.heap.size := by have := h3.size; rwa [World.size_alloc] at this
 clear h1 h2 h3
 go_wp2_with fail
 refine (HM.out w2 HB2.out).mono ?_
 rintro e w3 ⟨q, hc, LB, ld, R, rfl, h1, h2, h3⟩
 have HBB := Lib.hid (HB.out.below HB.out.lt h3)
 have HTT := Lib.hid (HT.out.below h3)
 have HU := Lib.hid h1
 have HLU : Hid (TabLo (w.heap.size + 1) q hc LB R) := ⟨Nat.le_trans hs2 h2.tab, Nat.le_trans hs2 h2.cod, fun b o e => Nat.le_trans hs2 (h2.len b o e), fun j hj g hg => Nat.le_trans hs2 (h2.row j hj g hg)⟩
 have HB3 := Lib.hid (HB2.out.trans (h3.mono HB2.out.size))
 clear h1 h2 h3 HB HT
 have f0 := HBB.out.frozen 0
 have f1 := HBB.out.frozen 1
 have c0 := HBB.out.cell 0
 have c1 := HBB.out.cell 1
 simp at c0 c1
 go_wp2
 have k2 := (HBB.out.set_ 0 (.pointer (some ⟨p, 0, none⟩))).set_ 1 (.pointer (some ⟨q, 0, none⟩))
 have hO : Hid (WOut w.heap.size none none w3 ((w3.setCell ⟨w.heap.size, 0, none⟩ (.pointer (some ⟨p, 0, none⟩))).setCell ⟨w.heap.size, 1, none⟩ (.pointer (some ⟨q, 0, none⟩)))) := ((WOut.refl w.heap.size none w3).setP 0 _).setP 1 _
 have HB4 : Hid (Below w.heap.size w ((w3.setCell ⟨w.heap.size, 0, none⟩ (.pointer (some ⟨p, 0, none⟩))).setCell ⟨w.heap.size, 1, none⟩ (.pointer (some ⟨q, 0, none⟩)))) := (HB3.out.setCell (Nat.le_refl _) _).setCell (Nat.le_refl _) _
 generalize (w3.setCell ⟨w.heap.size, 0, none⟩ (.pointer (some ⟨p, 0, none⟩))).setCell ⟨w.heap.size, 1, none⟩ (.pointer (some ⟨q, 0, none⟩)) = w4 at *
 have d0 := k2.cell 0
 have d1 := k2.cell 1
 simp at d0 d1
 have HT4 := Lib.hid (HTT.out.wout HLO.out hO.out (by omega) (fun g hg => by cases hg))
 have HU4 := Lib.hid (HU.out.wout HLU.out hO.out (by omega) (fun g hg => by cases hg))
 have HL4 : Hid (TabLo w.heap.size p gc LA S) := ⟨by have := HLO.out.tab; omega, by have := HLO.out.cod; omega, fun b o e => by have := HLO.out.len b o e; omega, fun j hj g hg => by have := HLO.out.row j hj g hg; omega⟩
 have HL5 : Hid (TabLo w.heap.size q hc LB R) := ⟨by have := HLU.out.tab; omega, by have := HLU.out.cod; omega, fun b o e => by have := HLU.out.len b o e; omega, fun j hj g hg => by have := HLU.out.row j hj g hg; omega⟩
 clear hO HBB k2 HN HM
 refine bodyPost_ret (v := .agg #[.pointer (some ⟨p, 0, none⟩), .pointer (some ⟨q, 0, none⟩)]) (by simp [results, Tryz.results65, go_sem, d0, d1]) rfl ?_
 exact ⟨p, gc, LA, lc, S, q, hc, LB, ld, R, rfl, HT4.out, HL4.out, HU4.out, HL5.out, HB4.out⟩
end
section
open Go.RowKit
set_option maxRecDepth 1000000
set_option linter.unusedVariables false
def symB (l : List Int) (s : Int) (size v : Nat) : List Bool := codeB (codeAt l s) (heldN (lenAt l s : Nat) 32) ++ putB v (heldN (size : Nat) 32)
def tokB (l d : List Int) (t : Tok) : List Bool := if t.len = 0 then symB l t.lit.n 0 0 else symB l (lenC t.len : Nat) (lenX t.len) (lenV t.len) ++ symB d (dstC t.dist : Nat) (dstX t.dist) (dstV t.dist)
def toksB (l d : List Int) (T : List Tok) : List Bool := T.flatMap (tokB l d)
theorem toksB_snoc (l d : List Int) (T : List Tok) (t : Tok) : toksB l d (T ++ [t]) = toksB l d T ++ tokB l d t := by unfold toksB; simp
theorem WOut.alloc {p : Nat} {a b : Option Nat} {w w' : World} (h : WOut p a b w w') (o : Obj) : WOut p a b w (w'.alloc o) :=
 ⟨h.os, h.tape, h.output, by rw [World.size_alloc]; have := h.size; omega, fun k hk hp ha => (Below.heap_alloc _ _ _ (Nat.lt_of_lt_of_le hk h.size)).trans (h.block k hk hp ha), h.nw⟩
theorem WOut.low {p : Nat} {a b : Option Nat} {w w' w'' : World} (h : WOut p a b w' w'') (hb : w.heap.size ≤ w'.heap.size) (hk : ∀ k, k < w.heap.size → w'.heap[k]? = w.heap[k]?) (h1 : w'.os = w.os) (h2 : w'.tape = w.tape) (h3 : w'.output = w.output) : WOut p a b w w'' :=
 ⟨h.os.trans h1, h.tape.trans h2, h.output.trans h3, Nat.le_trans hb h.size, fun k hk2 hp ha => (h.block k (by omega) hp ha).trans (hk k hk2), by
  rcases h.nw with e | e
  ·exact .inl e
  ·exact .inr fun g hg => Nat.le_trans hb (e g hg)⟩
theorem putSymbol_d {w : World} {p : Nat} {A : Option Addr} {len cap m : Nat} {X : List Bool} (h : Wr w p A len cap m X) {q n : Nat} {l : List Int} {gc : Nat} {LA : Option Addr} {lc : Nat} {S : Nat → Value}
  (ht : TabIn w q n l gc LA lc S) (s : Int) (hs : codeAt l s < 4294967296) (size v : Nat) (hv : v < 4294967296) (hroom : m + 64 ≤ 1000000) :
  Calls Tryz.prog 113 #[.pointer (some ⟨p, 0, none⟩), .pointer (some ⟨q, 0, none⟩), .int .i64 s, .int .i64 (size : Nat), .int .i64 v] w fun e w' => e = .returned (.tuple #[]) ∧ ∃ A' len' cap' m', Wr w' p A' len' cap' m' (X ++ symB l s size v) ∧ m' ≤ m + 64 ∧ WOut p (Value.slice A len cap).ownBlock (Value.slice A' len' cap').ownBlock w w' := by
 have hk1 := heldN_le (lenAt l s : Nat) 32
 have hk2 := heldN_le (size : Nat) 32
 refine (putSymbol_c (B := 0) h ht s hs (size : Nat) v hv hroom).mono ?_
 rintro e w' ⟨rfl, A', len', cap', hW, hO⟩
 rw [List.append_assoc] at hW
 exact ⟨rfl, A', len', cap', _, hW, by omega, hO⟩
theorem lenV_lt (n : Int) : lenV n < 4294967296 ∧ dstV n < 4294967296 := by
 unfold lenV dstV
 constructor <;> split <;> omega
theorem Blk.woutK {w w' : World} {p g : Nat} {a b : Option Nat} {t : TypeId} {C : Array Value} (h : Blk w g t C) (ho : WOut p a b w w') (hp : g ≠ p) (ha : a ≠ some g) : Blk w' g t C := by
 have hl := h.lt
 unfold Blk at h ⊢
 rw [ho.block g hl hp ha]
 exact h
end
end Go.Proofs.YtldgdofefcehnaaGreatDoor
