/-
  THE CONTRACTS OF block's begin (a writer that is one). No conditions.
-/
import Derived.Test.YthnbflkoipnakaaGreatDoorBlk
import Derived.Test.YthnbflkoipnakaaGreatDoorBits
namespace Go.Proofs.YthnbflkoipnakaaGreatDoor
open Go.RowKit
set_option maxRecDepth 1000000
set_option linter.unusedVariables false

/-- what each block begins with -/
def headB (last : Bool) (kind : Nat) : List Bool := last :: putB kind 2
theorem putB_one (last : Bool) : putB (if last then 1 else 0) 1 = [last] := by cases last <;> rfl
set_option maxHeartbeats 1000000 in
theorem begin_c {w : World} {p : Nat} {A : Option Addr} {len cap n : Nat} {X : List Bool} (h : Wr w p A len cap n X) (kind : Nat) (hk : kind < 4294967296) (last : Bool) (hroom : n + 64 ≤ 1000000) :
    Calls Tryz.prog 29 #[.pointer (some ⟨p, 0, none⟩), .int .u32 kind, .bool last] w fun e w' => e = .returned (.pointer (some ⟨p, 0, none⟩)) ∧ ∃ A' len' cap', Wr w' p A' len' cap' (n + 3) (X ++ headB last kind) ∧ WOut p (Value.slice A len cap).ownBlock (Value.slice A' len' cap').ownBlock w w' := by
  have H := Lib.hid h
  clear h
  cases last
  · go_enter Tryz.func29, Tryz.ntmps29
    go_wp2_with fail
    refine (PutB_c H.out 0 (by omega) 1 (by omega)).mono ?_
    rintro e w2 ⟨rfl, A2, len2, cap2, hW2, hO2⟩
    rw [show heldN 1 32 = 1 from rfl, show putB 0 1 = [false] from rfl] at hW2
    have HW := Lib.hid hW2
    have HO := Lib.hid hO2
    clear hW2 hO2
    go_wp2_with fail
    refine (PutB_c HW.out kind hk 2 (by omega)).mono ?_
    rintro e w3 ⟨rfl, A3, len3, cap3, hW3, hO3⟩
    rw [show heldN 2 32 = 2 from rfl, List.append_assoc] at hW3
    go_wp2
    go_ret
    exact ⟨rfl, A3, len3, cap3, hW3, HO.out.trans hO3⟩
  · go_enter Tryz.func29, Tryz.ntmps29
    go_wp2_with fail
    refine (PutB_c H.out 1 (by omega) 1 (by omega)).mono ?_
    rintro e w2 ⟨rfl, A2, len2, cap2, hW2, hO2⟩
    rw [show heldN 1 32 = 1 from rfl, show putB 1 1 = [true] from rfl] at hW2
    have HW := Lib.hid hW2
    have HO := Lib.hid hO2
    clear hW2 hO2
    go_wp2_with fail
    refine (PutB_c HW.out kind hk 2 (by omega)).mono ?_
    rintro e w3 ⟨rfl, A3, len3, cap3, hW3, hO3⟩
    rw [show heldN 2 32 = 2 from rfl, List.append_assoc] at hW3
    go_wp2
    go_ret
    exact ⟨rfl, A3, len3, cap3, hW3, HO.out.trans hO3⟩
theorem Wr.ob {w : World} {p : Nat} {A : Option Addr} {len cap n : Nat} {X : List Bool} (h : Wr w p A len cap n X) : ∀ g, (Value.slice A len cap).ownBlock = some g → p + 1 ≤ g := fun g hg => (h.own.lt g hg).1
/-- a writer's call writes nothing below it -/
theorem Wr.keeps {w0 w w' : World} {p : Nat} {A : Option Addr} {len cap n : Nat} {X : List Bool} {b : Option Nat} (h : Wr w p A len cap n X) (hO : WOut p (Value.slice A len cap).ownBlock b w w') (hb : Below w0.heap.size w0 w) (hp : w0.heap.size ≤ p) : Below w0.heap.size w0 w' :=
  hb.trans (hO.below hp hb.size fun g hg => by have := h.ob g hg; omega)
theorem xorMax (m : Nat) (h : m < two64) : bits .xor .u64 IntKind.u64.max (m : Int) = ((two64 - 1 - m : Nat) : Int) := by
  show IntKind.u64.wrap ((BitVec.ofInt 64 IntKind.u64.max ^^^ BitVec.ofInt 64 (m : Int)).toNat : Int) = _
  have e1 : BitVec.ofInt 64 IntKind.u64.max = BitVec.allOnes 64 := by decide +kernel
  rw [e1, BitVec.allOnes_xor, BitVec.toNat_not, BitVec.ofInt_natCast, BitVec.toNat_ofNat, Nat.mod_eq_of_lt (by unfold two64 at h; omega)]
  unfold two64 at h ⊢
  have e2 : 2 ^ 64 - 1 - m = 18446744073709551616 - 1 - m := rfl
  rw [e2]
  exact IntWalk.u64_in _ (by omega)
theorem putL_not {m : Nat} (h : m ≤ 65535) : putL (two64 - 1 - m) 2 = putL (65535 - m) 2 := by
  have e : ∀ v, putL v 2 = [ofN (v / 256 ^ 0 % 256), ofN (v / 256 ^ 1 % 256)] := fun v => rfl
  rw [e, e]
  unfold two64
  have e1 : (18446744073709551616 - 1 - m) / 256 ^ 0 % 256 = (65535 - m) / 256 ^ 0 % 256 := by simp only [Nat.pow_zero, Nat.div_one]; omega
  have e2 : (18446744073709551616 - 1 - m) / 256 ^ 1 % 256 = (65535 - m) / 256 ^ 1 % 256 := by simp only [Nat.pow_one]; omega
  rw [e1, e2]
theorem alB_al (X : List Bool) (h : X.length % 8 = 0) : alB X = X := by
  unfold alB
  rw [show 8 * ((X.length + 7) / 8) - X.length = 0 by omega]
  simp
/-- the bits of a stored block, behind what stands -/
def stoB (X : List Bool) (l : List F) (last : Bool) : List Bool := alB (X ++ headB last 0) ++ bitsOf (putL l.length 2) ++ bitsOf (putL (65535 - l.length) 2) ++ bitsOf l
set_option maxHeartbeats 2000000 in
theorem Stored_j {w : World} {p : Nat} {A : Option Addr} {len cap n : Nat} {X : List Bool} (h : Wr w p A len cap n X) (B : Option Addr) (m cb : Nat) (l : List F) (hJ : ∀ W b, WOut p (Value.slice A len cap).ownBlock b w W → RowIn W B m cb l) (hm : m ≤ 65535) (last : Bool) (hroom : n + 8 * m + 200 ≤ 1000000) :
    Calls Tryz.prog 10 #[.pointer (some ⟨p, 0, none⟩), .slice B m cb, .bool last] w fun e w' => e = .returned (.int .i64 0) ∧ ∃ A' len' cap' n', Wr w' p A' len' cap' n' (stoB X l last) ∧ WOut p (Value.slice A len cap).ownBlock (Value.slice A' len' cap').ownBlock w w' := by
  have H := Lib.hid h
  have HJ := Lib.hid hJ
  have hnm := (hJ w _ (WOut.refl _ _ _)).row.max
  have HLN := Lib.hid (hJ w _ (WOut.refl _ _ _)).row.len
  clear h hJ
  have h1 : ¬ (65535 : Int) < (m : Int) := by omega
  go_enter Tryz.func10, Tryz.ntmps10
  go_wp2_with fail
  refine (begin_c H.out 0 (by omega) last (by omega)).mono ?_
  rintro e w2 ⟨rfl, A2, len2, cap2, hW2, hO2⟩
  have H8 := hW2.at8
  have HW2 := Lib.hid hW2
  have HO2 := Lib.hid hO2
  clear hW2 hO2
  go_wp2_with fail
  refine (Put_c m (by unfold two64; omega) 2 w2).mono ?_
  rintro e w3 ⟨g3, rfl, hown3, hb3⟩
  rw [show heldN 2 8 = 2 from rfl] at hown3 ⊢
  have HR3 := Lib.hid (Row.of_own hown3)
  have HW3 := Lib.hid (HW2.out.below hb3)
  have HO3 : Hid (WOut p (Value.slice A2 len2 cap2).ownBlock (Value.slice A2 len2 cap2).ownBlock w2 w3) := ⟨hb3.os, hb3.tape, hb3.output, hb3.size, fun k hk _ _ => hb3.block k hk, .inl rfl⟩
  clear hown3 hb3
  go_wp2_with fail
  refine (BytesB_c HW3.out _ 2 2 (putL m 2) HR3.out (by omega)).mono ?_
  rintro e w4 ⟨rfl, A4, len4, cap4, hW4, hO4⟩
  have HW4 := Lib.hid hW4
  have HO4 := Lib.hid ((HO2.out.trans HO3.out).trans hO4)
  clear hW4 hO4 HR3 HW3 HO3 HW2
  go_wp2_with fail
  have ex := xorMax m (by unfold two64; omega)
  rw [ex]
  refine (Put_c (two64 - 1 - m) (by unfold two64; omega) 2 w4).mono ?_
  rintro e w5 ⟨g5, rfl, hown5, hb5⟩
  rw [show heldN 2 8 = 2 from rfl, putL_not hm] at hown5
  rw [show heldN 2 8 = 2 from rfl]
  have HR5 := Lib.hid (Row.of_own hown5)
  have HW5 := Lib.hid (HW4.out.below hb5)
  have HO5 : Hid (WOut p (Value.slice A4 len4 cap4).ownBlock (Value.slice A4 len4 cap4).ownBlock w4 w5) := ⟨hb5.os, hb5.tape, hb5.output, hb5.size, fun k hk _ _ => hb5.block k hk, .inl rfl⟩
  have H9 := HW4.out.at8
  clear hown5 hb5 ex
  go_wp2_with fail
  refine (BytesB_c HW5.out _ 2 2 (putL (65535 - m) 2) HR5.out (by omega)).mono ?_
  rintro e w6 ⟨rfl, A6, len6, cap6, hW6, hO6⟩
  have HW6 := Lib.hid hW6
  have HO6 := Lib.hid ((HO4.out.trans HO5.out).trans hO6)
  have H10 := hW6.at8
  clear hW6 hO6 HR5 HW5 HO5 HW4
  go_wp2_with fail
  refine (BytesB_c HW6.out B m cb l (HJ.out w6 _ HO6.out).row (by omega)).mono ?_
  rintro e w7 ⟨rfl, A7, len7, cap7, hW7, hO7⟩
  have hml := HLN.out
  have e9 : alB (alB (alB (X ++ headB last 0) ++ bitsOf (putL m 2)) ++ bitsOf (putL (65535 - m) 2)) ++ bitsOf l = stoB X l last := by
    unfold stoB
    rw [hml, alB_al (alB (X ++ headB last 0) ++ bitsOf (putL m 2)) (by rw [List.length_append, alB_length, bitsOf_length, putL_length]; omega),
      alB_al (alB (X ++ headB last 0) ++ bitsOf (putL m 2) ++ bitsOf (putL (65535 - m) 2)) (by rw [List.length_append, List.length_append, alB_length, bitsOf_length, bitsOf_length, putL_length, putL_length]; omega)]
  rw [e9] at hW7
  have HW7 := Lib.hid hW7
  have HO7 := Lib.hid (HO6.out.trans hO7)
  clear hW7 hO7 e9
  go_wp2
  go_ret
  exact ⟨rfl, A7, len7, cap7, _, HW7.out, HO7.out⟩
theorem Stored_c {w0 w : World} {p : Nat} {A : Option Addr} {len cap n : Nat} {X : List Bool} (h : Wr w p A len cap n X) (B : Option Addr) (m cb : Nat) (l : List F) (hl : RowIn w0 B m cb l) (hb : Below w0.heap.size w0 w) (hp : w0.heap.size ≤ p) (hm : m ≤ 65535) (last : Bool) (hroom : n + 8 * m + 200 ≤ 1000000) :
    Calls Tryz.prog 10 #[.pointer (some ⟨p, 0, none⟩), .slice B m cb, .bool last] w fun e w' => e = .returned (.int .i64 0) ∧ ∃ A' len' cap' n', Wr w' p A' len' cap' n' (stoB X l last) ∧ WOut p (Value.slice A len cap).ownBlock (Value.slice A' len' cap').ownBlock w w' :=
  Stored_j h B m cb l (fun W b ho => hl.below (h.keeps ho hb hp)) hm last hroom
end Go.Proofs.YthnbflkoipnakaaGreatDoor
