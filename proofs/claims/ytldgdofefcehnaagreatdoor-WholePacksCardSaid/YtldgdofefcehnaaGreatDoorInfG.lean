/-
  THE CONTRACTS OF the unpacker's fixedCodes, stored. No conditions.
-/
import Derived.Test.YtldgdofefcehnaaGreatDoorInfD
import Derived.Test.YtldgdofefcehnaaGreatDoorBits
import Derived.Test.YtldgdofefcehnaaGreatDoorBase
import Derived.Deep.RegionHeld3
import Derived.RegionDies
namespace Go.Proofs.YtldgdofefcehnaaGreatDoor
open Go.RowKit
set_option maxRecDepth 100000
set_option linter.unusedVariables false
def FxOk (w : World) (p r : Nat) (a : Option Nat) (x : Value) : Prop := x = .pointer none ∨ ∃ q, x = .pointer (some ⟨q, 0, none⟩) ∧ Cds w p r a q fixL fixD
theorem FxOk.step {w w' : World} {p r : Nat} {a b : Option Nat} {x : Value} (h : FxOk w p r a x) (ho : UOut p r a b w w') : FxOk w' p r b x := by
 rcases h with h | ⟨q, h1, h2⟩
 ·exact .inl h
 ·exact .inr ⟨q, h1, h2.step ho⟩
theorem fix_ok : errC fixL fixL.length = 0 ∧ errC fixD fixD.length = 0 := by decide +kernel
def fixR (i : Nat) : List Int := if i = 0 then List.replicate 144 8 else if i = 1 then List.replicate 112 9 else if i = 2 then List.replicate 24 7 else List.replicate 8 8
theorem fixR_cat : catI fixR 4 = fixL := by decide +kernel
theorem fix_len : (catI fixR 4).length = 288 := by decide +kernel
theorem rep_wf (v : Int) (hv : 0 ≤ v ∧ v ≤ 100) (k : Nat) : ∀ i, i < k → (Lit.int .i64 (gi (List.replicate k v) i)).wf = true := fun i hi => by
 have e : gi (List.replicate k v) i = v := by simp [gi, hi]
 rw [e, show v = ((v.toNat : Nat) : Int) by omega]
 exact wf_nat _ (by omega)
theorem rep_row {w : World} {base k : Nat} {A : Option Addr} {c : Nat} {v : Int} (hv : 0 ≤ v ∧ v ≤ 100) (hk : k ≤ 1000000) (h : w.ownsRow base 3 1 (.slice A k c) k (iC (List.replicate k v))) : IRow w A k .i64 (List.replicate k v) :=
 IRow.ofOwn h (rep_wf v hv k) (by unfold maxLen; omega)
theorem belA {w w' : World} {o : Obj} (b : Below (w.alloc o).heap.size (w.alloc o) w') : Below w.heap.size w w' := ((Below.refl w.heap.size w).alloc (Nat.le_refl _) o).trans (b.mono (by simp))
def pick4 (a b c d : Nat) (i : Nat) : Nat := if i = 0 then a else if i = 1 then b else if i = 2 then c else d
section
variable {w : World} {H p r : Nat} {RA : Option Addr} {len rc : Nat} {l : List F} {A : Option Addr} {n c : Nat} {u : Un} {m : Nat} {x : Value}
theorem UnP.setX (h : UnP w H p r RA len rc l A n c u m x) (y : Value) : UnP (w.setCell ⟨p, 3, none⟩ y) H p r RA len rc l A n c u m y := by
 have hlo := h.lo
 have hne := h.ne
 refine ⟨by have h1 := h.blk.set_ 3 y; exact h1, ⟨h.rd.blk.setOther (by show r ≠ p; omega) _, ⟨h.rd.row.row.setOther (fun b o e => (h.lor b o e).2) _, h.rd.row.le, h.rd.row.max⟩, h.rd.le, h.rd.ne, h.rd.few⟩, own_set_other h.own (by show p < H; omega) _, h.ne, h.lo, h.lor, h.few, by simpa [World.setCell] using h.here, ?_, h.low⟩
 exact h.tabs.uout h.low.1 h.low.2.1 (fun g hg => by have := (h.own.lt g hg).1; have := h.low; omega) ((UOut.refl p r (Value.slice A n c).ownBlock w).setP 3 y)
set_option maxHeartbeats 4000000 in
theorem fixedCodes_c (h : UnP w H p r RA len rc l A n c u m x) (hx : FxOk w p r (Value.slice A n c).ownBlock x) :
  Calls Tryz.prog 103 #[.pointer (some ⟨p, 0, none⟩)] w fun e w' => ∃ q, e = .returned (.pointer (some ⟨q, 0, none⟩)) ∧ UnP w' H p r RA len rc l A n c u m (.pointer (some ⟨q, 0, none⟩)) ∧ Cds w' p r (Value.slice A n c).ownBlock q fixL fixD ∧ UOut p r (Value.slice A n c).ownBlock (Value.slice A n c).ownBlock w w' := by
 have c3 := h.blk.cell 3
 have f3 := h.blk.frozen 3
 simp at c3
 rcases hx with rfl | ⟨q, rfl, hc⟩
 ·have HH := Lib.hid h
  clear h c3 f3
  have HC := Lib.hid (Concat_c (k := 4))
  have c3 := HH.out.blk.cell 3
  simp at c3
  go_enter Tryz.func103, Tryz.ntmps103
  go_wp2_with fail
  refine (Rep_c 8 144 (by omega) (by omega) _ _ _ (by go_simp) rfl).mono ?_
  rintro e w1 ⟨g1, rfl, o1, b1⟩
  have B1 := Lib.hid (belA b1)
  have R1 := Lib.hid (rep_row (by omega) (by omega) o1)
  clear o1 b1
  go_wp2_with fail
  refine (Rep_c 9 112 (by omega) (by omega) _ _ _ (by go_simp) rfl).mono ?_
  rintro e w2 ⟨g2, rfl, o2, b2⟩
  have B2 := Lib.hid (belA b2)
  have R2 := Lib.hid (rep_row (by omega) (by omega) o2)
  clear o2 b2
  go_wp2_with fail
  refine (Rep_c 7 24 (by omega) (by omega) _ _ _ (by go_simp) rfl).mono ?_
  rintro e w3 ⟨g3, rfl, o3, b3⟩
  have B3 := Lib.hid (belA b3)
  have R3 := Lib.hid (rep_row (by omega) (by omega) o3)
  clear o3 b3
  go_wp2_with fail
  refine (Rep_c 8 8 (by omega) (by omega) _ _ _ (by go_simp) rfl).mono ?_
  rintro e w4 ⟨g4, rfl, o4, b4⟩
  have B4 := Lib.hid (belA b4)
  have R4 := Lib.hid (rep_row (by omega) (by omega) o4)
  clear o4 b4
  have R3' := Lib.hid (R3.out.below B4.out)
  have R2' := Lib.hid ((R2.out.below B3.out).below B4.out)
  have R1' := Lib.hid (((R1.out.below B2.out).below B3.out).below B4.out)
  have B14 : Hid (Below w.heap.size w w4) := by
   have s1 := B1.out.size
   have s2 := B2.out.size
   have s3 := B3.out.size
   exact ((B1.out.trans (B2.out.mono s1)).trans (B3.out.mono (by omega))).trans (B4.out.mono (by omega))
  clear B1 B2 B3 B4 R1 R2 R3
  go_wp2_with fail
  refine (Concat_c w4.heap.size 4 4 (fun i => some ⟨pick4 g1 g2 g3 g4 i, 0, none⟩) (fun i => pick4 144 112 24 8 i) (fun i => pick4 144 112 24 8 i) fixR _ (by simp) (by omega) (by omega) ?_ ?_ (by rw [fix_len]; omega)).mono ?_
  ·intro i hi
   have hb := (Blk.new w4 49 #[Value.slice (some ⟨g1, 0, none⟩) 144 144, Value.slice (some ⟨g2, 0, none⟩) 112 112, Value.slice (some ⟨g3, 0, none⟩) 24 24, Value.slice (some ⟨g4, 0, none⟩) 8 8]).cell i
   have h4 : i = 0 ∨ i = 1 ∨ i = 2 ∨ i = 3 := by omega
   rcases h4 with rfl | rfl | rfl | rfl
   ·exact hb
   ·exact hb
   ·exact hb
   ·exact hb
  ·intro i hi
   have h4 : i = 0 ∨ i = 1 ∨ i = 2 ∨ i = 3 := by omega
   rcases h4 with rfl | rfl | rfl | rfl
   ·exact ⟨R1'.out.alloc _, by decide⟩
   ·exact ⟨R2'.out.alloc _, by decide⟩
   ·exact ⟨R3'.out.alloc _, by decide⟩
   ·exact ⟨R4.out.alloc _, by decide⟩
  rintro e w5 ⟨g5, c5, N, rfl, hN, o5, b5⟩
  rw [fix_len] at hN
  obtain rfl : N = 288 := hN.out
  rw [fixR_cat] at o5
  have B5 := belA b5
  have hwf : ∀ i, i < 288 → (Lit.int .i64 (gi fixL i)).wf = true := by decide +kernel
  have R5 := IRow.ofOwn o5 hwf (by unfold maxLen; omega)
  have B15 := Lib.hid (B14.out.trans (B5.mono B14.out.size))
  clear R1' R2' R3' R4 hN o5 b5 B14 B5 hwf
  have HR5 := Lib.hid R5
  clear R5
  go_wp2_with fail
  refine (Rep_c 5 32 (by omega) (by omega) _ _ _ (by go_simp) rfl).mono ?_
  rintro e w6 ⟨g6, rfl, o6, b6⟩
  have B6 := Lib.hid (belA b6)
  have R6 := Lib.hid (rep_row (by omega) (by omega) o6)
  have R56 := Lib.hid (HR5.out.below B6.out)
  have B16 := Lib.hid (B15.out.trans (B6.out.mono B15.out.size))
  clear o6 b6 HR5 B6 B15
  have U6 := Lib.hid (HH.out.below B16.out)
  go_wp2_with fail
  refine (newCodes_c (p := p) (r := r) (a := (Value.slice A n c).ownBlock) _ _ 288 32 _ _ fixL fixD _ R56.out R6.out U6.out.blk.lt U6.out.rd.lt (fun g hg => (U6.out.own.lt g hg).2)).mono ?_
  rintro e w7 (⟨k, g1, rfl, g2⟩ | ⟨_, _, q, rfl, hc, b7⟩)
  ·rcases g1 with ⟨_, g1⟩ | ⟨_, _, g1⟩
   ·exact absurd fix_ok.1 g1
   ·exact absurd fix_ok.2 g1
  ·have U7 := U6.out.below b7
   have O7 : UOut p r (Value.slice A n c).ownBlock (Value.slice A n c).ownBlock w w7 := (UOut.ofBelow B16.out).trans (UOut.ofBelow b7)
   have c37 := U7.blk.cell 3
   have f37 := U7.blk.frozen 3
   simp at c37
   have HU7 := Lib.hid (U7.setX (.pointer (some ⟨q, 0, none⟩)))
   have HO7 := Lib.hid (O7.setP 3 (.pointer (some ⟨q, 0, none⟩)))
   have HC7 := Lib.hid (hc.step ((UOut.refl p r (Value.slice A n c).ownBlock w7).setP 3 (.pointer (some ⟨q, 0, none⟩))))
   have d3 : (w7.setCell ⟨p, 3, none⟩ (.pointer (some ⟨q, 0, none⟩))).cell? ⟨p, 3, none⟩ = some (.pointer (some ⟨q, 0, none⟩)) := by
    have h1 := HU7.out.blk.cell 3
    simpa using h1
   clear hc U7 O7 b7 c3
   go_wp2
   go_ret
   exact ⟨q, rfl, HU7.out, HC7.out, HO7.out⟩
 ·have HH := Lib.hid h
  have HC := Lib.hid hc
  clear h hc
  go_enter Tryz.func103, Tryz.ntmps103
  go_wp2
  go_ret
  exact ⟨q, rfl, HH.out, HC.out, UOut.refl _ _ _ _⟩
theorem UnP.grown {w' : World} {N c' : Nat} {A' : Option Addr} {xs : List F} (h : UnP w H p r RA len rc l A n c u m x) (hL : Laid w H (.slice A n c) N (cs u.out ++ cs xs) w' (.slice A' N c')) (hN : N ≤ m) :
  UnP (w'.setCell ⟨p, 1, none⟩ (.slice A' N c')) H p r RA len rc l A' N c' ⟨u.at_, u.out ++ xs⟩ m x ∧ UOut p r (Value.slice A n c).ownBlock (Value.slice A' N c').ownBlock w (w'.setCell ⟨p, 1, none⟩ (.slice A' N c')) := by
 obtain ⟨_, _, _, hown, hg, hnw⟩ := hL
 have hlo := h.lo
 have hne := h.ne
 have hblk1 := Blk.kept h.blk hg ⟨h.blk.lt, fun e => by have := (h.own.lt p e).1; omega⟩
 have hO := (UOut.ofGrown (p := p) (r := r) hg hnw).setP 1 (.slice A' N c')
 have hgr : ∀ k, k < w.heap.size → k < H → w'.heap[k]? = w.heap[k]? := fun k hk hH => hg.block k hk (fun e => by have := (h.own.lt k e.symm).1; omega)
 have hrd := h.rd
 refine ⟨⟨hblk1.set_ 1 _, ?_, ?_, h.ne, hlo, h.lor, ⟨hN, h.few.2⟩, ?_, h.tabs.uout h.low.1 h.low.2.1 (fun g hg => by have := (h.own.lt g hg).1; have := h.low; omega) hO, h.low⟩, hO⟩
 ·refine ⟨?_, ⟨⟨hrd.row.row.1, hrd.row.row.2.1, fun hn => ?_⟩, hrd.row.le, hrd.row.max⟩, hrd.le, hrd.ne, hrd.few⟩
  ·have hb := hrd.blk
   have hb2 := hb.lt
   unfold Blk at hb ⊢
   rw [Go.Deep.blk_setCell_other _ _ _ _ (show r ≠ p by omega), hgr r hb2 hlo.2]
   exact hb
  ·obtain ⟨b, o, e, hbl, hc⟩ := hrd.row.row.2.2 hn
   have h6 := h.lor b o e
   refine ⟨b, o, e, by have := hg.size; simp [World.setCell] at this ⊢; omega, fun i hi => ?_⟩
   rw [← hc i hi]
   refine World.cell?_of_block (a := ⟨b, o + i, none⟩) ?_
   show (w'.setCell _ _).heap[b]? = _
   rw [Go.Deep.blk_setCell_other _ _ _ _ (show b ≠ p by omega), hgr b hbl h6.1]
 ·rw [show cs (u.out ++ xs) = cs u.out ++ cs xs from cs_append _ _]
  exact own_set_other hown (by show p < H; omega) _
 ·have := hg.size
  have := h.here
  simp [World.setCell]
  omega
theorem getL2 (l : List F) (a : Nat) (h : a + 2 ≤ l.length) : getL (((l.drop a).take 2).take 8) = le2 l a := by
 have e : (l.drop a).take 2 = [gt l a, gt l (a + 1)] := by
  refine ext_gt (by simp; omega) fun i hi => ?_
  simp at hi
  rw [gt_take, if_pos (by omega), gt_drop]
  have h2 : i = 0 ∨ i = 1 := by omega
  rcases h2 with rfl | rfl <;> rfl
 rw [e]
 rfl
theorem le2_lt (l : List F) (a : Nat) : le2 l a < 65536 := by
 have := (gt l a).lt
 have := (gt l (a + 1)).lt
 unfold le2
 omega
theorem xor16 (s : Nat) (h : s < 65536) : bits BinOp.xor IntKind.u64 (s : Int) 65535 = ((65535 - s : Nat) : Int) := by
 rw [show (65535 : Int) = ((65535 : Nat) : Int) from rfl, u64_xor_nat _ _ (by omega) (by omega)]
 congr 1
 refine Nat.eq_of_testBit_eq fun i => ?_
 rw [Nat.testBit_xor, show (65535 : Nat) = 2 ^ 16 - 1 from rfl, Nat.testBit_two_pow_sub_one, show 2 ^ 16 - 1 - s = 2 ^ 16 - (s + 1) by omega, Nat.testBit_two_pow_sub_succ (by omega)]
 by_cases hi : i < 16
 ·simp [hi]
 ·have : s.testBit i = false := Nat.testBit_lt_two_pow (Nat.lt_of_lt_of_le h (show 2 ^ 16 ≤ 2 ^ i from Nat.pow_le_pow_right (by decide) (by omega)))
  simp [hi, this]
theorem stoF_eq (l : List F) (most : Nat) {u : Un} {a : Nat} (ha : a = (u.at_ + 7) / 8) : stoF l most u =
  if l.length < a + 4 then .error 20
  else if le2 l (a + 2) ≠ 65535 - le2 l a then .error 33
  else if most < u.out.length + le2 l a then (if l.length < a + 4 + (most - u.out.length + 1) then .error 20 else .error 6)
  else if l.length < a + 4 + le2 l a then .error 20
  else .ok ⟨8 * (a + 4 + le2 l a), u.out ++ (l.drop (a + 4)).take (le2 l a)⟩ := by subst ha; rfl
set_option maxHeartbeats 4000000 in
theorem stored_c (h : UnP w H p r RA len rc l A n c u m x) :
  Calls Tryz.prog 101 #[.pointer (some ⟨p, 0, none⟩)] w fun e w' => Went 33 w p r (Value.slice A n c).ownBlock (stoF l m u) H RA len rc l m x (.tuple #[]) e w' := by
 obtain ⟨a, ha⟩ : ∃ a, a = (u.at_ + 7) / 8 := ⟨_, rfl⟩
 have hS := stoF_eq l m ha
 have HH := Lib.hid h
 by_cases e1 : l.length < a + 2
 ·have HR : Hid (stoF l m u = .error 20) := by unfold Hid; rw [hS, if_pos (by omega)]
  have HB := Lib.hid (bytes_no h 2 (by omega))
  clear h hS ha e1
  go_enter Tryz.func101, Tryz.ntmps101
  go_wp2_with (go_at_call 144; refine HB.out.mono ?_; rintro e w' ⟨rfl, hO⟩)
  exact ⟨rfl, .inl ⟨20, HR.out, rfl, _, hO⟩⟩
 ·have HB := Lib.hid (bytes_ok h 2 (by omega))
  rw [← ha] at HB
  have hlt := le2_lt l a
  have hg2 := getL2 l a (by omega)
  obtain ⟨s, hs⟩ : ∃ s, s = le2 l a := ⟨_, rfl⟩
  rw [← hs] at hlt hg2 hS
  have HS := Lib.hid hS
  have HA := Lib.hid ha
  have HG2 := Lib.hid hg2
  have HL1 := Lib.hid e1
  have HSS := Lib.hid hs
  clear h hS ha hg2 hs e1
  go_enter Tryz.func101, Tryz.ntmps101
  go_wp2_with fail
  refine HB.out.mono ?_
  rintro e w1 ⟨A1, c1, rfl, hown1, hU1, hO1⟩
  have hget := Get_c A1 2 c1 _ w1 (Row.of_own hown1)
  rw [HG2.out] at hget
  have HGET := Lib.hid hget
  have HU1 := Lib.hid hU1
  have HO1 := Lib.hid hO1
  clear hget hown1 hU1 hO1
  go_wp2_with fail
  refine HGET.out.mono ?_
  rintro e w2 ⟨rfl, rfl⟩
  have hat : (8 * (a + 2) + 7) / 8 = a + 2 := by omega
  by_cases e2 : l.length < a + 4
  ·have HR : Hid (stoF l m u = .error 20) := by unfold Hid; rw [HS.out, if_pos e2]
   have HB2 := Lib.hid (bytes_no HU1.out 2 (by show l.length < (8 * (a + 2) + 7) / 8 + 2; omega))
   clear e2 hat
   go_wp2_with fail
   refine HB2.out.mono ?_
   rintro e w2 ⟨rfl, hO⟩
   have HO := Lib.hid (HO1.out.trans hO)
   clear hO
   go_wp2
   exact ⟨rfl, .inl ⟨20, HR.out, rfl, _, HO.out⟩⟩
  ·have hb2 := bytes_ok HU1.out 2 (by show (8 * (a + 2) + 7) / 8 + 2 ≤ l.length; omega)
   have e3 : (({ at_ := 8 * (a + 2), out := u.out } : Un).at_ + 7) / 8 = a + 2 := hat
   rw [e3] at hb2
   have hg3 := getL2 l (a + 2) (by omega)
   have hlt3 := le2_lt l (a + 2)
   obtain ⟨t, ht⟩ : ∃ t, t = le2 l (a + 2) := ⟨_, rfl⟩
   rw [← ht] at hg3 hlt3
   have HT : Hid (stoF l m u = (if t ≠ 65535 - s then .error 33 else if m < u.out.length + s then (if l.length < a + 4 + (m - u.out.length + 1) then .error 20 else .error 6)
     else if l.length < a + 4 + s then .error 20 else .ok ⟨8 * (a + 4 + s), u.out ++ (l.drop (a + 4)).take s⟩)) := by
    unfold Hid
    rw [HS.out, if_neg e2, ht]
   have HB2 := Lib.hid hb2
   have HG3 := Lib.hid hg3
   clear e2 hat e3 hb2 hg3 ht
   go_wp2_with fail
   refine HB2.out.mono ?_
   rintro e w2 ⟨A2, c2, rfl, hown2, hU2, hO2⟩
   have hget := Get_c A2 2 c2 _ w2 (Row.of_own hown2)
   rw [HG3.out] at hget
   have HGET2 := Lib.hid hget
   have HU2 := Lib.hid hU2
   have HO2 := Lib.hid (HO1.out.trans hO2)
   clear hget hown2 hU2 hO2
   go_wp2_with fail
   refine HGET2.out.mono ?_
   rintro e w3 ⟨rfl, rfl⟩
   have hxor := xor16 s hlt
   by_cases e4 : t ≠ 65535 - s
   ·have HR : Hid (stoF l m u = .error 33) := by unfold Hid; rw [HT.out, if_pos e4]
    have hne : ((t : Int) != ((65535 - s : Nat) : Int)) = true := by rw [bne_iff_ne]; omega
    clear e4
    go_wp2
    exact ⟨rfl, .inl ⟨33, HR.out, rfl, _, HO2.out⟩⟩
   ·have ht2 : t = 65535 - s := by omega
    have hne : ((t : Int) != ((65535 - s : Nat) : Int)) = false := by rw [ht2]; simp
    have HT2 : Hid (stoF l m u = (if m < u.out.length + s then (if l.length < a + 4 + (m - u.out.length + 1) then .error 20 else .error 6)
      else if l.length < a + 4 + s then .error 20 else .ok ⟨8 * (a + 4 + s), u.out ++ (l.drop (a + 4)).take s⟩)) := by unfold Hid; rw [HT.out, if_neg e4]
    have hU3 := HU2.out
    have hout := hU3.out_
    have hfew := hU3.few
    have k1 := hU3.blk.cell 1
    have k2 := hU3.blk.cell 2
    simp at k1 k2
    have hat2 : (8 * (a + 2 + 2) + 7) / 8 = a + 4 := by omega
    have hout' : u.out.length = n := hout
    have hsub : IntKind.i64.wrap ((m : Int) - (n : Int)) = ((m - n : Nat) : Int) := (IntWalk.i64_in _ (by omega)).trans (by omega)
    obtain ⟨z, hz⟩ : ∃ z, z = m - n := ⟨_, rfl⟩
    rw [← hz] at hsub
    have hz6 : z ≤ 1000000 := by omega
    have HZ := Lib.hid hz
    have HOUT := Lib.hid hout'
    clear e4 ht2 hU3 hout hout' hz
    by_cases e5 : z < s
    ·have hgt : decide (z < s) = true := decide_eq_true (by omega)
     by_cases e6 : l.length < a + 4 + (z + 1)
     ·have HR : Hid (stoF l m u = .error 20) := by
       unfold Hid
       have h1 := HZ.out
       have h2 := HOUT.out
       rw [HT2.out, if_pos (by omega), if_pos (by omega)]
      have hb := bytes_no (HU2.out.drewN 1) (z + 1) (by show l.length < (8 * (a + 2 + 2) + 7) / 8 + (z + 1); omega)
      have HB3 := Lib.hid (fun q => bytes_no (HU2.out.drewN q) (z + 1) (by show l.length < (8 * (a + 2 + 2) + 7) / 8 + (z + 1); omega))
      clear hb e5 e6 hat2
      go_wp2
      go_quiet (fail)
      go_wp2_with fail
      refine (HB3.out nq).mono ?_
      rintro e w3 ⟨rfl, hO⟩
      have HO := Lib.hid ((HO2.out.drewN nq).trans hO)
      clear hO
      go_wp2
      exact ⟨rfl, .inl ⟨20, HR.out, rfl, _, HO.out⟩⟩
     ·have HR : Hid (stoF l m u = .error 6) := by
       unfold Hid
       have h1 := HZ.out
       have h2 := HOUT.out
       rw [HT2.out, if_pos (by omega), if_neg (by omega)]
      have HB3 := Lib.hid (fun q => bytes_ok (HU2.out.drewN q) (z + 1) (by show (8 * (a + 2 + 2) + 7) / 8 + (z + 1) ≤ l.length; omega))
      clear e5 e6 hat2
      go_wp2
      go_quiet (fail)
      go_wp2_with fail
      refine (HB3.out nq).mono ?_
      rintro e w3 ⟨A3, c3, rfl, hown3, hU3, hO⟩
      have HO := Lib.hid ((HO2.out.drewN nq).trans hO)
      clear hO hown3 hU3
      go_wp2
      exact ⟨rfl, .inl ⟨6, HR.out, rfl, _, HO.out⟩⟩
    ·have hgt : decide (z < s) = false := decide_eq_false e5
     by_cases e6 : l.length < a + 4 + s
     ·have HR : Hid (stoF l m u = .error 20) := by
       unfold Hid
       have h1 := HZ.out
       have h2 := HOUT.out
       rw [HT2.out, if_neg (by omega), if_pos (by omega)]
      clear e5 hat2
      go_wp2
      go_quiet (fail)
      have HW := Lib.hid (HU2.out.drewN nq)
      have HOW := Lib.hid (HO2.out.drewN nq)
      clear k1 k2
      generalize w2.drewN nq = W at *
      have k1 := HW.out.blk.cell 1
      have f1 := HW.out.blk.frozen 1
      simp at k1
      have HB3 := Lib.hid (bytes_no (HW.out.drewN 1) s (by show l.length < (8 * (a + 2 + 2) + 7) / 8 + s; omega))
      clear e6
      have hsw : IntKind.i64.wrap (s : Int) = (s : Int) := IntWalk.i64_in _ (by omega)
      go_wp2
      go_region_dies
      all_goals
       refine HB3.out.mono ?_
       rintro e w3 ⟨rfl, hO⟩
       have HO := Lib.hid ((HOW.out.drewN 1).trans hO)
       clear hO
       go_wp2
       exact ⟨rfl, .inl ⟨20, HR.out, rfl, _, HO.out⟩⟩
     ·have HR : Hid (stoF l m u = .ok ⟨8 * (a + 4 + s), u.out ++ (l.drop (a + 4)).take s⟩) := by
       unfold Hid
       have h1 := HZ.out
       have h2 := HOUT.out
       rw [HT2.out, if_neg (by omega), if_neg (by omega)]
      clear e5
      go_wp2
      go_quiet (fail)
      have HW := Lib.hid (HU2.out.drewN nq)
      have HOW := Lib.hid (HO2.out.drewN nq)
      clear k1 k2
      generalize w2.drewN nq = W at *
      have k1 := HW.out.blk.cell 1
      have f1 := HW.out.blk.frozen 1
      simp at k1
      have hb3 := bytes_ok (HW.out.drewN 1) s (by show (8 * (a + 2 + 2) + 7) / 8 + s ≤ l.length; omega)
      rw [show (({ at_ := 8 * (a + 2 + 2), out := u.out } : Un).at_ + 7) / 8 = a + 4 from hat2] at hb3
      have HB3 := Lib.hid hb3
      have HL6 : Hid (a + 4 + s ≤ l.length) := by unfold Hid; omega
      have HNS : Hid (n + s ≤ m) := by unfold Hid; have h1 := HZ.out; have h2 := of_decide_eq_false hgt; omega
      clear e6 hb3 hat2
      have hsw : IntKind.i64.wrap (s : Int) = (s : Int) := IntWalk.i64_in _ (by omega)
      obtain ⟨i0, hi, hz0, hz1, hz2⟩ := info_parts info_u8
      have hpH := HW.out.lo.1
      go_wp2
      go_region_law ((first
        | (refine step_append_row i0 hi hz0 hz1 hz2 (by rfl) (.tmp 39) (.tmp 43) (by rfl) H (.slice A n c) n (cs u.out) (by simp [go_sem]) hU3.own A3 s c3 ((l.drop (a + 4)).take s) (by simp [go_sem]) (Row.of_own hown3) (by omega) hU3.here ?_
           intro v4 w4 hL
           obtain ⟨A4, c4, rfl, hown4, hg4, hnw4⟩ := hL
           have hb4 := Blk.kept hU3.blk hg4 ⟨hU3.blk.lt, fun e => by have := (hU3.own.lt p e).1; omega⟩
           have d1 := hb4.cell 1
           have d2 := hb4.frozen 1
           simp at d1)
        | (go_simp
           refine HB3.out.mono ?_
           rintro e w3 ⟨A3, c3, rfl, hown3, hU3, hO3⟩
           have e1 := hU3.blk.cell 1
           simp at e1
           dsimp only)))
      all_goals
       have hGR := UnP.grown hU3 ⟨A4, c4, rfl, hown4, hg4, hnw4⟩ HNS.out
       have HG := Lib.hid (And.intro hGR.1 ((((HOW.out.drewN 1).trans hO3)).trans hGR.2))
       clear hGR hown3 hU3 hO3 hown4 hg4 hnw4 hb4
       go_wp2
       go_end0
       exact .inr ⟨_, A4, n + s, c4, HR.out, rfl, HG.out.1, HG.out.2⟩
end
end Go.Proofs.YtldgdofefcehnaaGreatDoor
