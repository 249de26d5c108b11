/-
  THE DOCUMENT's OWN head, Stored. No conditions.
  THE CONTRACT OF THE DOCUMENT's Count. No conditions.
  LAW 14: what stays while another writer writes; the law's own example. No conditions (but that the tables lie as the program's text lays them).
  LAW 14: the law's own example, as a walk. No conditions (but that the tables lie as the program's text lays them).
-/
import Derived.Test.YtldgdofefcehnaaGreatDoorBlkc
import Derived.Test.YtldgdofefcehnaaGreatDoorRef8
import Derived.Test.YtldgdofefcehnaaGreatDoorBlkj
import Derived.Test.YtldgdofefcehnaaGreatDoorUng
import Derived.Test.YtldgdofefcehnaaGreatDoorBlkk
import Derived.Test.YtldgdofefcehnaaGreatDoorInfX
import Derived.Lib.SlBytesConst
namespace Go.Proofs.YtldgdofefcehnaaGreatDoor
section
open Go.RowKit
set_option maxRecDepth 1000000
set_option linter.unusedVariables false
set_option maxHeartbeats 1000000 in
theorem RHead_c (B : Option Addr) (m cb : Nat) (X : List Bool) (w : World) (hB : Row w B m (bc X)) (hm : m ≤ 900000) (last : Bool) (kind : Nat) (hk : kind < 4294967296) :
  Calls Tryz.prog 97 #[.slice B m cb, .bool last, .int .u32 kind] w fun e w' => ∃ A c, e = .returned (.slice A (m + 3) c) ∧ w'.ownsRow w.heap.size 5 1 (.slice A (m + 3) c) (m + 3) (cs (bc (X ++ headB last kind))) ∧ Below w.heap.size w w' := by
 have HB := Lib.hid hB
 clear hB
 cases last
 ·go_enter Tryz.func97, Tryz.ntmps97
  go_wp2_with fail
  refine (RefPutB_c B m cb X w HB.out (by omega) 0 (by omega) 1).mono ?_
  rintro e w2 ⟨A2, c2, rfl, hown2, hb2⟩
  rw [show heldN 1 32 = 1 from rfl, show putB 0 1 = [false] from rfl] at hown2
  rw [show heldN 1 32 = 1 from rfl]
  have HR2 := Lib.hid (Row.of_own hown2)
  have HB2 := Lib.hid hb2
  clear hown2 hb2
  go_wp2_with fail
  refine (RefPutB_c A2 (m + 1) c2 _ w2 HR2.out (by omega) kind hk 2).mono ?_
  rintro e w3 ⟨A3, c3, rfl, hown3, hb3⟩
  rw [show heldN 2 32 = 2 from rfl, List.append_assoc] at hown3
  rw [show heldN 2 32 = 2 from rfl]
  have HO3 := Lib.hid (own_base hown3 HB2.out.size)
  have HB3 := Lib.hid (HB2.out.trans (hb3.mono HB2.out.size))
  clear hown3 hb3
  go_wp2
  go_ret
  exact ⟨A3, c3, rfl, HO3.out, HB3.out⟩
 ·go_enter Tryz.func97, Tryz.ntmps97
  go_wp2_with fail
  refine (RefPutB_c B m cb X w HB.out (by omega) 1 (by omega) 1).mono ?_
  rintro e w2 ⟨A2, c2, rfl, hown2, hb2⟩
  rw [show heldN 1 32 = 1 from rfl, show putB 1 1 = [true] from rfl] at hown2
  rw [show heldN 1 32 = 1 from rfl]
  have HR2 := Lib.hid (Row.of_own hown2)
  have HB2 := Lib.hid hb2
  clear hown2 hb2
  go_wp2_with fail
  refine (RefPutB_c A2 (m + 1) c2 _ w2 HR2.out (by omega) kind hk 2).mono ?_
  rintro e w3 ⟨A3, c3, rfl, hown3, hb3⟩
  rw [show heldN 2 32 = 2 from rfl, List.append_assoc] at hown3
  rw [show heldN 2 32 = 2 from rfl]
  have HO3 := Lib.hid (own_base hown3 HB2.out.size)
  have HB3 := Lib.hid (HB2.out.trans (hb3.mono HB2.out.size))
  clear hown3 hb3
  go_wp2
  go_ret
  exact ⟨A3, c3, rfl, HO3.out, HB3.out⟩
set_option maxHeartbeats 2000000 in
theorem RStored_c (B : Option Addr) (m cb : Nat) (X : List Bool) (w : World) (hB : Row w B m (bc X)) (hm : m ≤ 100000) (C : Option Addr) (k ck : Nat) (l : List F) (hC : Row w C k l) (hk : k ≤ 10000) (last : Bool) :
  Calls Tryz.prog 48 #[.slice B m cb, .slice C k ck, .bool last] w fun e w' => ∃ A c n, e = .returned (.slice A n c) ∧ w'.ownsRow w.heap.size 5 1 (.slice A n c) n (cs (bc (stoB X l last))) ∧ Below w.heap.size w w' := by
 obtain ⟨i0, hi, hz0, hz1, hz2⟩ := info_parts info_u8
 have HB := Lib.hid hB
 have HC := Lib.hid hC
 have hkm := hC.max
 have HKL := Lib.hid hC.len
 obtain ⟨y, hy⟩ : ∃ y, y = 65535 - k := ⟨_, rfl⟩
 have hy1 : (65535 : Int) - (k : Int) = (y : Int) := by omega
 have HY := Lib.hid hy
 have hyb : y ≤ 65535 := by omega
 clear hB hC hy
 go_enter Tryz.func48, Tryz.ntmps48
 go_wp2_with fail
 refine (RHead_c B m cb X w HB.out (by omega) last 0 (by omega)).mono ?_
 rintro e w2 ⟨A2, c2, rfl, hown2, hb2⟩
 have HR2 := Lib.hid (Row.of_own hown2)
 have HB2 := Lib.hid hb2
 clear hown2 hb2
 go_wp2_with fail
 refine (RefAlignB_c A2 (m + 3) c2 _ w2 HR2.out (by omega)).mono ?_
 rintro e w3 ⟨A3, c3, n3, rfl, hn3, hown3, hb3⟩
 have hn3b : n3 ≤ m + 10 := by have := hn3.out; omega
 have HO3 := Lib.hid (own_base hown3 HB2.out.size)
 have HB3 := Lib.hid (HB2.out.trans (hb3.mono HB2.out.size))
 clear hown3 hb3 hn3
 go_wp2_with fail
 refine (RefPut_c k (by unfold two64; omega) 2 w3).mono ?_
 rintro e w4 ⟨A4, c4, rfl, hown4, hb4⟩
 rw [show heldN 2 8 = 2 from rfl] at hown4
 rw [show heldN 2 8 = 2 from rfl]
 have HR4 := Lib.hid (Row.of_own hown4)
 have HB4 := Lib.hid (HB3.out.trans (hb4.mono HB3.out.size))
 have HO4 := Lib.hid (own_below HO3.out hb4)
 clear hown4 hb4 HO3
 go_wp2_with fail
 refine (RefBits_c A4 2 c4 _ w4 HR4.out (by omega)).mono ?_
 rintro e w5 ⟨g5, c5, rfl, hown5, hb5⟩
 have HR5 := Lib.hid (Row.of_own hown5)
 have HB5 := Lib.hid (HB4.out.trans (hb5.mono HB4.out.size))
 have HO5 := Lib.hid (own_below HO4.out hb5)
 clear hown5 hb5 HO4
 go_wp2_with (at_builtin; refine wpList_append_row i0 hi hz0 hz1 hz2 rfl _ _ rfl w.heap.size (.slice A3 n3 c3) n3 _ rfl HO5.out (some ⟨g5, 0, none⟩) (8 * 2) c5 (bc (bitsOf (putL k 2))) rfl HR5.out (by omega) HB5.out.size ?_; intro v6 w6 hL6; obtain ⟨A6, c6, rfl, hown6, hg6, hnw6⟩ := hL6)
 have HB6 : Hid (Below w.heap.size w w6) := (HB5.out.grown hg6 HB5.out.size (fun g hg => (HO5.out.lt g hg).1))
 rw [← cs_append, ← bc_append] at hown6
 have HO6 := Lib.hid hown6
 clear hown6 hg6 hnw6 HO5 HB5 HR5
 refine (RefPut_c y (by unfold two64; omega) 2 w6).mono ?_
 rintro e w7 ⟨A7, c7, rfl, hown7, hb7⟩
 rw [show heldN 2 8 = 2 from rfl] at hown7
 rw [show heldN 2 8 = 2 from rfl]
 have HR7 := Lib.hid (Row.of_own hown7)
 have HB7 := Lib.hid (HB6.out.trans (hb7.mono HB6.out.size))
 have HO7 := Lib.hid (own_below HO6.out hb7)
 clear hown7 hb7 HO6
 go_wp2_with fail
 refine (RefBits_c A7 2 c7 _ w7 HR7.out (by omega)).mono ?_
 rintro e w8 ⟨g8, c8, rfl, hown8, hb8⟩
 have HR8 := Lib.hid (Row.of_own hown8)
 have HB8 := Lib.hid (HB7.out.trans (hb8.mono HB7.out.size))
 have HO8 := Lib.hid (own_below HO7.out hb8)
 clear hown8 hb8 HO7
 go_wp2_with (at_builtin; refine wpList_append_row i0 hi hz0 hz1 hz2 rfl _ _ rfl w.heap.size (.slice A6 (n3 + 8 * 2) c6) (n3 + 8 * 2) _ rfl HO8.out (some ⟨g8, 0, none⟩) (8 * 2) c8 (bc (bitsOf (putL y 2))) rfl HR8.out (by omega) HB8.out.size ?_; intro v9 w9 hL9; obtain ⟨A9, c9, rfl, hown9, hg9, hnw9⟩ := hL9)
 have HB9 : Hid (Below w.heap.size w w9) := (HB8.out.grown hg9 HB8.out.size (fun g hg => (HO8.out.lt g hg).1))
 rw [← cs_append, ← bc_append] at hown9
 have HO9 := Lib.hid hown9
 clear hown9 hg9 hnw9 HO8 HB8 HR8
 refine (RefBits_c C k ck l w9 (HC.out.below HB9.out) (by omega)).mono ?_
 rintro e w10 ⟨g10, c10, rfl, hown10, hb10⟩
 have HR10 := Lib.hid (Row.of_own hown10)
 have HB10 := Lib.hid (HB9.out.trans (hb10.mono HB9.out.size))
 have HO10 := Lib.hid (own_below HO9.out hb10)
 clear hown10 hb10 HO9
 go_wp2_with (at_builtin; refine wpList_append_row i0 hi hz0 hz1 hz2 rfl _ _ rfl w.heap.size (.slice A9 (n3 + 8 * 2 + 8 * 2) c9) (n3 + 8 * 2 + 8 * 2) _ rfl HO10.out (some ⟨g10, 0, none⟩) (8 * k) c10 (bc (bitsOf l)) rfl HR10.out (by omega) HB10.out.size ?_; intro v11 w11 hL11; obtain ⟨A11, c11, rfl, hown11, hg11, hnw11⟩ := hL11)
 have HB11 : Hid (Below w.heap.size w w11) := (HB10.out.grown hg11 HB10.out.size (fun g hg => (HO10.out.lt g hg).1))
 rw [← cs_append, ← bc_append] at hown11
 have e9 : alB (X ++ headB last 0) ++ bitsOf (putL k 2) ++ bitsOf (putL y 2) ++ bitsOf l = stoB X l last := by
  unfold stoB
  rw [HKL.out, HY.out]
 rw [e9] at hown11
 have HO11 := Lib.hid hown11
 clear hown11 hg11 hnw11 e9
 go_ret
 exact ⟨A11, c11, _, rfl, HO11.out, HB11.out⟩
end
section
open Go.RowKit
set_option maxRecDepth 1000000
set_option linter.unusedVariables false
end
section
open Go.RowKit
set_option maxRecDepth 1000000
set_option linter.unusedVariables false
theorem TRow.wout {w w' : World} {C : Option Addr} {N p : Nat} {T : List Tok} {a b : Option Nat} (h : TRow w C N T) (ho : WOut p a b w w') (hA : ∀ b o, C = some ⟨b, o, none⟩ → b ≠ p ∧ a ≠ some b) : TRow w' C N T :=
 ⟨h.len, h.max, fun hn => by
  obtain ⟨b, off, e, hl, hc⟩ := h.top hn
  obtain ⟨h1, h2⟩ := hA b off e
  have hk := ho.block b hl h1 h2
  refine ⟨b, off, e, by have := ho.size; omega, fun i hi => ?_⟩
  obtain ⟨c0, c1, c2⟩ := hc i hi
  exact ⟨(World.cell?_of_block (a := ⟨b, off + i * 3, none⟩) hk).trans c0, (World.cell?_of_block (a := ⟨b, off + i * 3 + 1, none⟩) hk).trans c1, (World.cell?_of_block (a := ⟨b, off + i * 3 + 2, none⟩) hk).trans c2⟩, h.wf⟩
theorem tok1_row (w : World) (t : Tok) (hw : TokWf t) (g : Nat) (hg : w.heap.size = g) : TRow (w.alloc (.cells #[.int .u8 t.lit.n, .int .i64 t.len, .int .i64 t.dist] 53)) (some ⟨g, 0, none⟩) 1 [t] := by
 subst hg
 have hk := (Blk.new w 53 #[.int .u8 t.lit.n, .int .i64 t.len, .int .i64 t.dist]).trip
 refine ⟨rfl, by unfold maxLen; omega, fun _ => ⟨w.heap.size, 0, rfl, by simp, fun i hi => ?_⟩, fun i hi => ?_⟩
 ·obtain rfl : i = 0 := by omega
  exact hk.1
 ·obtain rfl : i = 0 := by omega
  exact hw
theorem exA_sto : (strB (pack (stoB [] [ofN 65] true))).toList = [1, 1, 0, 254, 255, 65] := by decide +kernel
end
section
open Go.RowKit
set_option maxRecDepth 1000000
set_option linter.unusedVariables false
end
end Go.Proofs.YtldgdofefcehnaaGreatDoor
