/-
  THE CONTRACT OF the unpacker's block. No conditions.
  THE CONTRACTS OF inflate's Unpack, All. No conditions.
  THE CONTRACT OF inflate's All; the law's own examples. No conditions.
-/
import Derived.Test.YtldgdofefcehnaaGreatDoorInfH
import Derived.Defers
import Derived.Recover
import Derived.RegionTactic
namespace Go.Proofs.YtldgdofefcehnaaGreatDoor
section
open Go.RowKit
set_option maxRecDepth 100000
set_option linter.unusedVariables false
section
variable {w : World} {H p r : Nat} {RA : Option Addr} {len rc : Nat} {l : List F} {A : Option Addr} {n c : Nat} {u : Un} {m : Nat} {x : Value}
def BlkEnd (w : World) (T : TypeId) (H p r : Nat) (RA : Option Addr) (len rc : Nat) (l : List F) (a : Option Nat) (u : Un) (m : Nat) (e : Ending) (w' : World) : Prop :=
 (∃ z, unbF l m u = .error z ∧ e = .panicked [{ v := .iface T (.int .i64 (z : Nat)), recovered := false }] ∧ ∃ b, UOut p r a b w w') ∨
 (∃ last u' A' n' c' x', unbF l m u = .ok (last, u') ∧ e = .returned (.bool (!last)) ∧ UnP w' H p r RA len rc l A' n' c' u' m x' ∧ FxOk w' p r (Value.slice A' n' c').ownBlock x' ∧ UOut p r a (Value.slice A' n' c').ownBlock w w')
theorem last_of (v : Nat) : decide (v ≠ 0) = !((v : Int) == 0) := by
 by_cases h : v = 0
 ·subst h; rfl
 ·rw [decide_eq_true h]
  have : ((v : Int) == 0) = false := by rw [beq_eq_false_iff_ne]; omega
  rw [this]; rfl
theorem blkEnd_of {T : TypeId} {w1 : World} {v : Nat} {a a1 : Option Nat} {R : Except Nat Un} {e : Ending} {w' : World}
  (hO : UOut p r a a1 w w1) (hR : unbF l m u = bnd R fun u2 => .ok (decide (v ≠ 0), u2)) (hx : ∀ b w', UOut p r a1 b w1 w' → FxOk w' p r b x) (h : Went T w1 p r a1 R H RA len rc l m x (.tuple #[]) e w') :
  (∃ z, unbF l m u = .error z ∧ e = .panicked [{ v := .iface T (.int .i64 (z : Nat)), recovered := false }] ∧ ∃ b, UOut p r a b w w') ∨
  (∃ u' A' n' c', unbF l m u = .ok (decide (v ≠ 0), u') ∧ e = .returned (.tuple #[]) ∧ UnP w' H p r RA len rc l A' n' c' u' m x ∧ FxOk w' p r (Value.slice A' n' c').ownBlock x ∧ UOut p r a (Value.slice A' n' c').ownBlock w w') := by
 rcases h with ⟨k, h1, h2, b, h3⟩ | ⟨u', A', n', c', h1, h2, h3, h4⟩
 ·exact .inl ⟨k, by rw [hR, h1]; rfl, h2, b, hO.trans h3⟩
 ·exact .inr ⟨u', A', n', c', by rw [hR, h1]; rfl, h2, h3, hx _ _ h4, hO.trans h4⟩
set_option maxHeartbeats 4000000 in
theorem block_c (h : UnP w H p r RA len rc l A n c u m x) (hx : FxOk w p r (Value.slice A n c).ownBlock x) :
  Calls Tryz.prog 53 #[.pointer (some ⟨p, 0, none⟩)] w fun e w' => BlkEnd w 33 H p r RA len rc l (Value.slice A n c).ownBlock u m e w' := by
 have HN := Lib.hid (num_c h 1 (by omega))
 have HX := Lib.hid hx
 clear h hx
 go_enter Tryz.func53, Tryz.ntmps53
 go_wp2_with fail
 refine HN.out.mono ?_
 rintro e w1 (⟨z, g1, rfl, g2⟩ | ⟨v1, u1, g1, hv1, rfl, g2, g3⟩)
 ·have HE : Hid (unbF l m u = .error z) := by unfold Hid unbF; rw [g1]; rfl
  have HO := Lib.hid g2
  clear g1 g2
  go_wp2
  exact ⟨rfl, .inl ⟨z, HE.out, rfl, _, HO.out⟩⟩
 have HF1 := Lib.hid g1
 have HO1 := Lib.hid g3
 have HN1 := Lib.hid (num_c g2 2 (by omega))
 have HLAST := Lib.hid (last_of v1)
 clear g1 g2 g3 HN hv1
 go_wp2_with fail
 refine HN1.out.mono ?_
 rintro e w2 (⟨z, g1, rfl, g2⟩ | ⟨k, u2, g1, hk, rfl, g2, g3⟩)
 ·have HE : Hid (unbF l m u = .error z) := by unfold Hid unbF; rw [HF1.out, bnd_ok, g1]; rfl
  have HO := Lib.hid (HO1.out.trans g2)
  clear g1 g2
  go_wp2
  exact ⟨rfl, .inl ⟨z, HE.out, rfl, _, HO.out⟩⟩
 have HO2 := Lib.hid (HO1.out.trans g3)
 have HU2 := Lib.hid g2
 have hk4 : k < 4 := hk
 have HU : Hid (unbF l m u = bnd (if k = 0 then stoF l m u2 else if k = 1 then blockF l m fixL fixD u2 else if k = 2 then dynF l m u2 else .error 32) fun u3 => .ok (decide (v1 ≠ 0), u3)) := by
  unfold Hid unbF
  rw [HF1.out, bnd_ok, g1, bnd_ok]
 clear g1 g2 g3 hk HN1 HO1 HF1
 by_cases k0 : k = 0
 ·subst k0
  have HR : Hid (unbF l m u = bnd (stoF l m u2) fun u3 => .ok (decide (v1 ≠ 0), u3)) := HU.out
  have HS := Lib.hid (stored_c HU2.out)
  clear HU
  go_wp2_with fail
  refine HS.out.mono ?_
  rintro e w3 hW
  rcases blkEnd_of HO2.out HR.out (fun b w' ho => (HX.out.step HO2.out).step ho) hW with ⟨z, g1, rfl, b, g2⟩ | ⟨u', A', n', c', g1, rfl, g2, g3, g4⟩
  ·have HE := Lib.hid g1
   have HO := Lib.hid g2
   clear g1 g2 hW
   go_wp2
   exact ⟨rfl, .inl ⟨z, HE.out, rfl, b, HO.out⟩⟩
  ·have HE := Lib.hid g1
   have HO := Lib.hid (And.intro g2 (And.intro g3 g4))
   clear g1 g2 g3 g4 hW
   go_wp2
   go_ret
   refine .inr ⟨_, u', A', n', c', x, HE.out, ?_, HO.out.1, HO.out.2.1, HO.out.2.2⟩
   rw [HLAST.out]
   simp
 have n0 : ((k : Int) == 0) = false := by rw [beq_eq_false_iff_ne]; omega
 by_cases k1 : k = 1
 ·subst k1
  have HR : Hid (unbF l m u = bnd (blockF l m fixL fixD u2) fun u3 => .ok (decide (v1 ≠ 0), u3)) := HU.out
  have HS := Lib.hid (fixedCodes_c HU2.out (HX.out.step HO2.out))
  clear HU k0
  go_wp2_with fail
  refine HS.out.mono ?_
  rintro e w3 ⟨q, rfl, g1, g2, g3⟩
  have HO3 := Lib.hid (HO2.out.trans g3)
  have HC := Lib.hid (coded_c g1 g2)
  have HCD := Lib.hid g2
  clear g1 g2 g3 HS
  go_wp2_with fail
  refine HC.out.mono ?_
  rintro e w4 hW
  rw [← blockF_ok fix_ok.1 fix_ok.2] at hW
  rcases blkEnd_of HO3.out HR.out (fun b w' ho => .inr ⟨q, rfl, HCD.out.step ho⟩) hW with ⟨z, g1, rfl, b, g2⟩ | ⟨u', A', n', c', g1, rfl, g2, g3, g4⟩
  ·have HE := Lib.hid g1
   have HO := Lib.hid g2
   clear g1 g2 hW
   go_wp2
   exact ⟨rfl, .inl ⟨z, HE.out, rfl, b, HO.out⟩⟩
  ·have HE := Lib.hid g1
   have HO := Lib.hid (And.intro g2 (And.intro g3 g4))
   clear g1 g2 g3 g4 hW
   go_wp2
   go_ret
   refine .inr ⟨_, u', A', n', c', _, HE.out, ?_, HO.out.1, HO.out.2.1, HO.out.2.2⟩
   rw [HLAST.out]
   simp
 have n1 : ((k : Int) == 1) = false := by rw [beq_eq_false_iff_ne]; omega
 by_cases k2 : k = 2
 ·subst k2
  have HR : Hid (unbF l m u = bnd (dynF l m u2) fun u3 => .ok (decide (v1 ≠ 0), u3)) := HU.out
  have HS := Lib.hid (dynamicCodes_c HU2.out)
  clear HU k0 k1
  go_wp2_with fail
  refine HS.out.mono ?_
  rintro e w3 (⟨z, g1, rfl, g2⟩ | ⟨ls, ds, u3, q, g1, g2, g3, rfl, g4, g5, g6⟩)
  ·have HE : Hid (unbF l m u = .error z) := by
    unfold Hid
    rw [HR.out]
    unfold dynF
    rcases g1 with g1 | ⟨ls, ds, u', g1, g3⟩
    ·rw [g1]; rfl
    ·rw [g1, bnd_ok, blockF_err g3]; rfl
   have HO := Lib.hid (HO2.out.trans g2)
   clear g1 g2
   go_wp2
   exact ⟨rfl, .inl ⟨z, HE.out, rfl, _, HO.out⟩⟩
  have HO3 := Lib.hid (HO2.out.trans g6)
  have HC := Lib.hid (coded_c g5 g4)
  have HB : Hid (dynF l m u2 = codedF l m ls ds u3) := by unfold Hid dynF; rw [g1, bnd_ok, blockF_ok g2 g3]
  clear g1 g2 g3 g4 g5 g6 HS
  go_wp2_with fail
  refine HC.out.mono ?_
  rintro e w4 hW
  rw [← HB.out] at hW
  rcases blkEnd_of HO3.out HR.out (fun b w' ho => (HX.out.step HO3.out).step ho) hW with ⟨z, g1, rfl, b, g2⟩ | ⟨u', A', n', c', g1, rfl, g2, g3, g4⟩
  ·have HE := Lib.hid g1
   have HO := Lib.hid g2
   clear g1 g2 hW
   go_wp2
   exact ⟨rfl, .inl ⟨z, HE.out, rfl, b, HO.out⟩⟩
  ·have HE := Lib.hid g1
   have HO := Lib.hid (And.intro g2 (And.intro g3 g4))
   clear g1 g2 g3 g4 hW
   go_wp2
   go_ret
   refine .inr ⟨_, u', A', n', c', x, HE.out, ?_, HO.out.1, HO.out.2.1, HO.out.2.2⟩
   rw [HLAST.out]
   simp
 have n2 : ((k : Int) == 2) = false := by rw [beq_eq_false_iff_ne]; omega
 have HE : Hid (unbF l m u = .error 32) := by unfold Hid; rw [HU.out, if_neg k0, if_neg k1, if_neg k2]; rfl
 clear k0 k1 k2 HU
 go_wp2
 exact ⟨rfl, .inl ⟨32, HE.out, rfl, _, HO2.out⟩⟩
end
end
section
open Go.RowKit
set_option maxRecDepth 100000
set_option linter.unusedVariables false
theorem assert_errno (k : Nat) (w : World) : (Instr.typeAssert (.iface 33 (.int .i64 k)) 20 33 false).run Tryz.prog w = .ok (.int .i64 k) w := by kernel_rfl
theorem catch_panicking (po pn pe : Nat) (k : Nat) (older : List PanicEntry) (w : World) (x y : Value) (z : Int)
  (h0 : w.cell? ⟨po, 0, none⟩ = some x) (f0 : w.frozen? ⟨po, 0, none⟩ = false) (h1 : w.cell? ⟨pn, 0, none⟩ = some y) (f1 : w.frozen? ⟨pn, 0, none⟩ = false) (h2 : w.cell? ⟨pe, 0, none⟩ = some (.int .i64 z)) (f2 : w.frozen? ⟨pe, 0, none⟩ = false)
  (d1 : po ≠ pn) (d2 : po ≠ pe) (d3 : pn ≠ pe) :
  CallsD Tryz.prog 52 #[.pointer (some ⟨po, 0, none⟩), .pointer (some ⟨pn, 0, none⟩), .pointer (some ⟨pe, 0, none⟩)] (.panicking ({ v := .iface 33 (.int .i64 k), recovered := false } :: older)) w fun e u' w' =>
   e = .returned (.tuple #[]) ∧ u' = .panicking ({ v := .iface 33 (.int .i64 k), recovered := true } :: older) ∧
   ∃ q, w' = (((w.setCell ⟨po, 0, none⟩ (.slice none 0 0)).setCell ⟨pn, 0, none⟩ (.int .i64 0)).setCell ⟨pe, 0, none⟩ (.int .i64 k)).drewN q := by
 refine callsD_of_wpS Tryz.func52 rfl fun c₀ cs hu => ?_
 apply wpS_seq
 apply wpS_region
 simp [wpOpsS, go_sem, recoverD, hu, Tryz.ntmps52, Exit.thenS]
 refine wpS_of_wp ?_
 have e : (#[Value.pointer (some ⟨po, 0, none⟩), Value.pointer (some ⟨pn, 0, none⟩), Value.pointer (some ⟨pe, 0, none⟩)] ++ ((Array.replicate 6 undef).setIfInBounds 1 (Value.iface 33 (Value.int IntKind.i64 k))).setIfInBounds 0 (Value.iface 33 (Value.int IntKind.i64 k))) = #[Value.pointer (some ⟨po, 0, none⟩), Value.pointer (some ⟨pn, 0, none⟩), Value.pointer (some ⟨pe, 0, none⟩), Value.iface 33 (Value.int IntKind.i64 k), Value.iface 33 (Value.int IntKind.i64 k), undef, undef, undef, undef] := rfl
 rw [e]
 clear e
 have hta := assert_errno k
 go_wp2
 go_region
 go_wp2
 exact ⟨rfl, _, rfl, _, results_none rfl _ _ _, rfl, rfl, 1, rfl⟩
theorem catch_idle (po pn pe : Nat) (w : World) :
  CallsD Tryz.prog 52 #[.pointer (some ⟨po, 0, none⟩), .pointer (some ⟨pn, 0, none⟩), .pointer (some ⟨pe, 0, none⟩)] .returning w fun e u' w' =>
   e = .returned (.tuple #[]) ∧ u' = .returning ∧ w' = w := by
 refine callsD_of_wpS Tryz.func52 rfl fun c₀ cs hu => ?_
 apply wpS_seq
 apply wpS_region
 simp [wpOpsS, go_sem, recoverD, hu, Tryz.ntmps52, Exit.thenS]
 refine wpS_of_wp ?_
 have e : (#[Value.pointer (some ⟨po, 0, none⟩), Value.pointer (some ⟨pn, 0, none⟩), Value.pointer (some ⟨pe, 0, none⟩)] ++ ((Array.replicate 6 undef).setIfInBounds 1 Value.nilIface).setIfInBounds 0 Value.nilIface) = #[Value.pointer (some ⟨po, 0, none⟩), Value.pointer (some ⟨pn, 0, none⟩), Value.pointer (some ⟨pe, 0, none⟩), Value.nilIface, Value.nilIface, undef, undef, undef, undef] := rfl
 rw [e]
 clear e
 go_wp2
 cases c₀
 simp at hu
 subst hu
 exact ⟨rfl, _, rfl, _, results_none rfl _ _ _, rfl, rfl, rfl⟩
theorem ReadB_lo (A : Option Addr) (n c : Nat) (l : List F) (w : World) (h : Row w A n l) (hn : n ≤ 200000) :
  Calls Tryz.prog 36 #[.slice A n c] w fun e w' => ∃ p A' c', e = .returned (.pointer (some ⟨p, 0, none⟩)) ∧ RdB w' p A' n c' l 0 ∧ w.heap.size ≤ p ∧ (∀ b o, A' = some ⟨b, o, none⟩ → b < w'.heap.size) ∧ Below w.heap.size w w' := by
 go_enter Tryz.func36, Tryz.ntmps36
 go_wp2_with (go_at_call 51; refine (Clone_c A n c l _ h (by omega)).mono ?_; rintro e w1 ⟨A', c', rfl, hown, hbel⟩)
 go_ret
 have hin := own_in hown
 have hlt : ∀ b o, A' = some ⟨b, o, none⟩ → b < w1.heap.size := fun b o e => by
  subst e
  exact (hown.lt b rfl).2
 exact ⟨w1.heap.size, A', c', rfl, ⟨Blk.new w1 _ _, ⟨hin.row.alloc _, hin.le, hin.max⟩, by omega, fun b o e => by have := hlt b o e; omega, hn⟩, hbel.size, fun b o e => by have := hlt b o e; simp; omega, hbel.alloc hbel.size _⟩
def UnpEnd (w : World) (R : Except Nat Un) (e : Ending) (w' : World) : Prop :=
 (∃ z : Nat, R = .error z ∧ e = .returned (.tuple #[.slice none 0 0, .int .i64 0, .int .i64 z]) ∧ Below w.heap.size w w') ∨
 (∃ (u : Un) (A : Option Addr) (n c : Nat), R = .ok u ∧ e = .returned (.tuple #[.slice A n c, .int .i64 (((u.at_ + 7) / 8 : Nat) : Int), .int .i64 0]) ∧ w'.ownsRow w.heap.size 5 1 (.slice A n c) n (cs u.out) ∧ Below w.heap.size w w')
set_option maxHeartbeats 4000000 in
theorem Unpack_c (w : World) (ht : Tabs w) (B : Option Addr) (k cb : Nat) (l : List F) (hl : Row w B k l) (hk : k ≤ 100000) (m : Int) (M : Nat) (hm : max m 0 = (M : Int)) (hM : M ≤ 1000000) :
  Calls Tryz.prog 23 #[.slice B k cb, .int .i64 m] w fun e w' => UnpEnd w (unpF l M) e w' := by
 have hmf : ∀ (fn : Fn) (first cap : Array Value) (w : World), (Instr.makeFunc fn first cap).run Tryz.prog w = .ok (.func fn first cap) w := fun _ _ _ _ => rfl
 have HL := Lib.hid hl
 have HT := Lib.hid ht
 have h1w := ht.size
 clear hl ht
 go_enter_defers Tryz.func23, Tryz.ntmps23
 go_wp2_with fail
 have hb3 : Below w.heap.size w (((w.alloc (.cells #[.slice none 0 0] 22)).alloc (.cells #[.int .i64 0] 3)).alloc (.cells #[.int .i64 0] 33)) :=
  (((Below.refl _ _).alloc (Nat.le_refl _) _).alloc (by simp) _).alloc (by simp; omega) _
 have kpo : Blk (((w.alloc (.cells #[.slice none 0 0] 22)).alloc (.cells #[.int .i64 0] 3)).alloc (.cells #[.int .i64 0] 33)) w.heap.size 22 #[.slice none 0 0] :=
  ((Blk.new w _ _).below (by simp) ((Below.refl _ _).alloc (Nat.le_refl _) _)).below (by simp; omega) ((Below.refl _ _).alloc (Nat.le_refl _) _)
 have kpn : Blk (((w.alloc (.cells #[.slice none 0 0] 22)).alloc (.cells #[.int .i64 0] 3)).alloc (.cells #[.int .i64 0] 33)) (w.heap.size + 1) 3 #[.int .i64 0] := by
  have h := (Blk.new (w.alloc (.cells #[.slice none 0 0] 22)) 3 #[.int .i64 0]).below (by simp) ((Below.refl _ _).alloc (Nat.le_refl _) (.cells #[.int .i64 0] 33))
  simpa using h
 have kpe : Blk (((w.alloc (.cells #[.slice none 0 0] 22)).alloc (.cells #[.int .i64 0] 3)).alloc (.cells #[.int .i64 0] 33)) (w.heap.size + 1 + 1) 33 #[.int .i64 0] := by
  have h := Blk.new ((w.alloc (.cells #[.slice none 0 0] 22)).alloc (.cells #[.int .i64 0] 3)) 33 #[.int .i64 0]
  simpa using h
 obtain ⟨po, hpo⟩ : ∃ po, po = w.heap.size := ⟨_, rfl⟩
 obtain ⟨pn, hpn⟩ : ∃ pn, pn = w.heap.size + 1 := ⟨_, rfl⟩
 obtain ⟨pe, hpe⟩ : ∃ pe, pe = w.heap.size + 1 + 1 := ⟨_, rfl⟩
 rw [← hpe] at kpe ⊢
 rw [← hpn] at kpn ⊢
 rw [← hpo] at kpo ⊢
 have HPO : Hid (po = w.heap.size ∧ pn = w.heap.size + 1 ∧ pe = w.heap.size + 1 + 1) := ⟨hpo, hpn, by rw [hpe]⟩
 have dne1 : po ≠ pn := by omega
 have dne2 : po ≠ pe := by omega
 have dne3 : pn ≠ pe := by omega
 clear hpo hpn hpe
 generalize (((w.alloc (.cells #[.slice none 0 0] 22)).alloc (.cells #[.int .i64 0] 3)).alloc (.cells #[.int .i64 0] 33)) = W0 at *
 have KPO := Lib.hid kpo
 have KPN := Lib.hid kpn
 have KPE := Lib.hid kpe
 have HB3 := Lib.hid hb3
 clear kpo kpn kpe hb3
 refine (ReadB_lo B k cb l W0 (HL.out.below HB3.out) (by omega)).mono ?_
 rintro e W1 ⟨r, RA, rc, rfl, hrd, hr1, hra, hb1⟩
 have HPL : Hid (po < W0.heap.size ∧ pn < W0.heap.size ∧ pe < W0.heap.size) := ⟨KPO.out.lt, KPN.out.lt, KPE.out.lt⟩
 have hs01 := HB3.out.size
 have hs1 := hb1.size
 have hb2 : Below W0.heap.size W0 (W1.alloc (.cells #[.pointer (some ⟨r, 0, none⟩), .slice none 0 0, .int .i64 M, .pointer none] 92)) := hb1.alloc hb1.size _
 have hU : UnP (W1.alloc (.cells #[.pointer (some ⟨r, 0, none⟩), .slice none 0 0, .int .i64 M, .pointer none] 92)) (W1.heap.size + 1) W1.heap.size r RA k rc l none 0 0 ⟨0, []⟩ M (.pointer none) := by
  have hrl := hrd.lt
  refine ⟨Blk.new _ _ _, hrd.below ((Below.refl _ _).alloc (Nat.le_refl _) _), World.ownsRow_nil _ _ _ _, by omega, by omega, fun b o e => by have := hra b o e; omega, ⟨by omega, hM⟩, by simp, HT.out.below (HB3.out.trans (hb2.mono hs01)), by omega⟩
 obtain ⟨pu, hpu⟩ : ∃ pu, pu = W1.heap.size := ⟨_, rfl⟩
 have hpu0 : W0.heap.size ≤ pu := by omega
 rw [← hpu] at hU
 have HU := Lib.hid hU
 have HB2 := Lib.hid hb2
 have HR1 : Hid (W0.heap.size ≤ r) := hr1
 have HPU := Lib.hid hpu
 clear hrd hb1 hr1 hra hs01 hs1 hU hb2 hpu
 go_wp2
 rw [← HPU.out]
 generalize W1.alloc (.cells #[.pointer (some ⟨r, 0, none⟩), .slice none 0 0, .int .i64 M, .pointer none] 92) = W2 at *
 go_loopg [16] (8 * l.length) (fun gk v wr => ∃ (A : Option Addr) (n c : Nat) (uu : Un) (x : Value), Hid (gk = 8 * l.length - uu.at_) ∧ Hid (UnP wr (pu + 1) pu r RA k rc l A n c uu M x) ∧ Hid (FxOk wr pu r (Value.slice A n c).ownBlock x) ∧ Hid (UOut pu r none (Value.slice A n c).ownBlock W2 wr) ∧ Hid (loopF (8 * l.length) (unbF l M) uu = unpF l M))
 case atStart => exact ⟨none, 0, 0, ⟨0, []⟩, .pointer none, rfl, HU, .inl rfl, UOut.refl _ _ _ _, rfl⟩
 case round =>
  obtain ⟨A, n, c, uu, x, hgk, hU, hX, hO, hF⟩ := hrel
  have HBK := Lib.hid (block_c hU.out hX.out)
  have HLE : Hid (uu.at_ ≤ 8 * l.length) := hU.out.at_le
  go_wp2_with fail
  refine HBK.out.mono ?_
  rintro e w3 (⟨z, g1, rfl, b, g2⟩ | ⟨last, u', A', n', c', x', g1, rfl, g2, g3, g4⟩)
  ·have hE : Hid (unpF l M = .error z) := by unfold Hid; rw [← hF.out]; exact loopF_error g1
   have HO3 := Lib.hid (hO.out.trans g2)
   have hs3 := HO3.out.size
   have hpl := HPL.out
   have hr1 := HR1.out
   have b0 := HO3.out.blk (KPO.out.below hpl.1 HB2.out) (by omega) (by omega) (fun e => by cases e)
   have b1 := HO3.out.blk (KPN.out.below hpl.2.1 HB2.out) (by omega) (by omega) (fun e => by cases e)
   have b2 := HO3.out.blk (KPE.out.below hpl.2.2 HB2.out) (by omega) (by omega) (fun e => by cases e)
   have hcp := catch_panicking po pn pe z [] w3 (.slice none 0 0) (.int .i64 0) 0 (by have := b0.cell 0; simpa using this) (b0.frozen 0) (by have := b1.cell 0; simpa using this) (b1.frozen 0) (by have := b2.cell 0; simpa using this) (b2.frozen 0) dne1 dne2 dne3
   have HCP := Lib.hid hcp
   have HBB := Lib.hid (And.intro b0 (And.intro b1 b2))
   clear g1 g2 hs3 hpl hr1 b0 b1 b2 hcp
   go_wp2
   refine leaves_cons (f := 52) (args := #[.pointer (some ⟨po, 0, none⟩), .pointer (some ⟨pn, 0, none⟩), .pointer (some ⟨pe, 0, none⟩)]) (by simp) (by simp [go_sem]) ?_
   refine HCP.out.mono ?_
   rintro e u' w'' ⟨rfl, rfl, q, rfl⟩
   obtain ⟨b0, b1, b2⟩ := HBB.out
   have e0 : ((((w3.setCell ⟨po, 0, none⟩ (.slice none 0 0)).setCell ⟨pn, 0, none⟩ (.int .i64 0)).setCell ⟨pe, 0, none⟩ (.int .i64 z)).drewN q).cell? ⟨po, 0, none⟩ = some (.slice none 0 0) := by
    have h := ((b0.set_ 0 (.slice none 0 0)).setOther (a := ⟨pn, 0, none⟩) dne1 (.int .i64 0)).setOther (a := ⟨pe, 0, none⟩) dne2 (.int .i64 z)
    have h1 := h.cell 0
    simpa using h1
   have e1 : ((((w3.setCell ⟨po, 0, none⟩ (.slice none 0 0)).setCell ⟨pn, 0, none⟩ (.int .i64 0)).setCell ⟨pe, 0, none⟩ (.int .i64 z)).drewN q).cell? ⟨pn, 0, none⟩ = some (.int .i64 0) := by
    have h := ((b1.setOther (a := ⟨po, 0, none⟩) (Ne.symm dne1) (.slice none 0 0)).set_ 0 (.int .i64 0)).setOther (a := ⟨pe, 0, none⟩) dne3 (.int .i64 z)
    have h1 := h.cell 0
    simpa using h1
   have e2 : ((((w3.setCell ⟨po, 0, none⟩ (.slice none 0 0)).setCell ⟨pn, 0, none⟩ (.int .i64 0)).setCell ⟨pe, 0, none⟩ (.int .i64 z)).drewN q).cell? ⟨pe, 0, none⟩ = some (.int .i64 z) := by
    have h := ((b2.setOther (a := ⟨po, 0, none⟩) (Ne.symm dne2) (.slice none 0 0)).setOther (a := ⟨pn, 0, none⟩) (Ne.symm dne3) (.int .i64 0)).set_ 0 (.int .i64 z)
    have h1 := h.cell 0
    simpa using h1
   have hBel : Below w.heap.size w ((((w3.setCell ⟨po, 0, none⟩ (.slice none 0 0)).setCell ⟨pn, 0, none⟩ (.int .i64 0)).setCell ⟨pe, 0, none⟩ (.int .i64 z)).drewN q) := by
    have hpo := HPO.out
    have h23 : Below w.heap.size W2 w3 := HO3.out.below (by have := HB3.out.size; omega) (by have := HB3.out.size; have := HR1.out; omega) (by have := HB3.out.size; have := HB2.out.size; omega) (fun g e => by cases e)
    have h3 := (HB3.out.trans (HB2.out.mono HB3.out.size)).trans h23
    exact below_drewN (((h3.setCell (by show w.heap.size ≤ po; omega) _).setCell (by show w.heap.size ≤ pn; omega) _).setCell (by show w.heap.size ≤ pe; omega) _) q
   have hRes : UnpEnd w (unpF l M) (.returned (.tuple #[.slice none 0 0, .int .i64 0, .int .i64 z])) _ := .inl ⟨z, hE.out, rfl, hBel⟩
   generalize ((((w3.setCell ⟨po, 0, none⟩ (.slice none 0 0)).setCell ⟨pn, 0, none⟩ (.int .i64 0)).setCell ⟨pe, 0, none⟩ (.int .i64 z)).drewN q) = W9 at *
   simp [Leaves, settle, results, Tryz.results23, go_sem, e0, e1, e2]
   exact hRes
  ·have hpr := unbF_prog HLE.out g1
   cases last with
   | false =>
    have hm : Hid (8 * l.length - u'.at_ < gk) := by
     have h1 := hpr.1
     have h2 := hpr.2
     have h3 := hgk.out
     unfold Hid
     simp at h1 h2
     omega
    have hF2 : Hid (loopF (8 * l.length) (unbF l M) u' = unpF l M) := by
     unfold Hid
     rw [← hF.out]
     exact (loopF_more g1 hpr.1 hpr.2).symm
    have HU3 := Lib.hid g2
    have HX3 := Lib.hid g3
    have HO3 := Lib.hid (hO.out.trans g4)
    clear hpr g1 g2 g3 g4
    go_wp2
    go_roundg (8 * l.length - u'.at_)
    case measure => exact hm.out
    case rel => exact ⟨A', n', c', u', x', rfl, HU3, HX3, HO3, hF2⟩
   | true =>
    have hE : Hid (unpF l M = .ok u') := by
     unfold Hid
     rw [← hF.out]
     exact loopF_done g1
    have HU3 := Lib.hid g2
    have HO3 := Lib.hid (hO.out.trans g4)
    have hpl := HPL.out
    have hr1 := HR1.out
    have b0 := HO3.out.blk (KPO.out.below hpl.1 HB2.out) (by omega) (by omega) (fun e => by cases e)
    have b1 := HO3.out.blk (KPN.out.below hpl.2.1 HB2.out) (by omega) (by omega) (fun e => by cases e)
    have b2 := HO3.out.blk (KPE.out.below hpl.2.2 HB2.out) (by omega) (by omega) (fun e => by cases e)
    have HBB := Lib.hid (And.intro b0 (And.intro b1 b2))
    have p0 : w3.cell? ⟨po, 0, none⟩ = some (.slice none 0 0) := by have := b0.cell 0; simpa using this
    have p1 : w3.cell? ⟨pn, 0, none⟩ = some (.int .i64 0) := by have := b1.cell 0; simpa using this
    have p2 : w3.cell? ⟨pe, 0, none⟩ = some (.int .i64 0) := by have := b2.cell 0; simpa using this
    have q0 := b0.frozen 0
    have q1 := b1.frozen 0
    have q2 := b2.frozen 0
    have k0 := HU3.out.blk.cell 0
    have k1 := HU3.out.blk.cell 1
    simp at k0 k1
    have hat := HU3.out.at_le
    have hlen : Hid (l.length ≤ 100000) := by unfold Hid; rw [HL.out.len]; exact hk
    have hat2 : u'.at_ ≤ 800000 := by have := hlen.out; omega
    obtain ⟨a, ha⟩ : ∃ a, a = u'.at_ := ⟨_, rfl⟩
    rw [← ha] at hat2
    have hrd := HU3.out.rd
    rw [← ha] at hrd
    have HRD := Lib.hid hrd
    have HA := Lib.hid ha
    obtain ⟨V, hV⟩ : ∃ V, V = (a + 7) / 8 := ⟨_, rfl⟩
    have HV := Lib.hid hV
    have hsum : IntKind.i64.wrap ((a : Int) + 7) = (a : Int) + 7 := IntWalk.i64_in _ (by omega)
    have hdv : ((a : Int) + 7).tdiv 8 = (V : Int) := by rw [Int.tdiv_eq_ediv_of_nonneg (by omega)]; omega
    have hdv3 : Hid (IntKind.i64.wrap (((a : Int) + 7) / 8) = (V : Int)) := (IntWalk.i64_in _ (by omega)).trans (by omega)
    have hdv2 : IntKind.i64.wrap (V : Int) = (V : Int) := IntWalk.i64_in _ (by omega)
    clear hpr g1 g2 g3 g4 hpl hr1 b0 b1 b2 hat ha hrd hV
    go_wp2
    refine wp_mono (Q := fun e a' w' => match e with
     | .normal => (a'.tmps[4]?.getD undef = .pointer (some ⟨po, 0, none⟩) ∧ a'.tmps[5]?.getD undef = .pointer (some ⟨pn, 0, none⟩) ∧ a'.tmps[6]?.getD undef = .pointer (some ⟨pe, 0, none⟩) ∧
       a'.defers = [{ target := Target.fn (Fn.func 52) #[.pointer (some ⟨po, 0, none⟩), .pointer (some ⟨pn, 0, none⟩), .pointer (some ⟨pe, 0, none⟩)], args := #[] }]) ∧
       ∃ q, w' = (((w3.setCell ⟨po, 0, none⟩ (.slice A' n' c')).setCell ⟨pn, 0, none⟩ (.int .i64 (V : Int))).setCell ⟨pe, 0, none⟩ (.int .i64 0)).drewN q
     | _ => False) ?_ ?_
    ·go_region_with ((go_at_call 54; refine (AtB_c (HRD.out.drewN 1)).mono ?_; rintro e w' ⟨rfl, rfl⟩))
     all_goals exact ⟨⟨rfl, rfl, rfl, rfl⟩, 1, rfl⟩
    ·rintro e a' w' h
     cases e with
     | normal =>
      obtain ⟨⟨t4, t5, t6, td⟩, q, rfl⟩ := h
      obtain ⟨tmps, defers⟩ := a'
      subst td
      go_wp2
      refine leaves_cons (f := 52) (args := #[.pointer (some ⟨po, 0, none⟩), .pointer (some ⟨pn, 0, none⟩), .pointer (some ⟨pe, 0, none⟩)]) (by simp) (by simp [go_sem]) ?_
      refine (catch_idle po pn pe _).mono ?_
      rintro e u' w'' ⟨rfl, rfl, rfl⟩
      obtain ⟨b0, b1, b2⟩ := HBB.out
      have e0 : ((((w3.setCell ⟨po, 0, none⟩ (.slice A' n' c')).setCell ⟨pn, 0, none⟩ (.int .i64 (V : Int))).setCell ⟨pe, 0, none⟩ (.int .i64 0)).drewN q).cell? ⟨po, 0, none⟩ = some (.slice A' n' c') := by
       have h := ((b0.set_ 0 (.slice A' n' c')).setOther (a := ⟨pn, 0, none⟩) dne1 (.int .i64 (V : Int))).setOther (a := ⟨pe, 0, none⟩) dne2 (.int .i64 0)
       have h1 := h.cell 0
       simpa using h1
      have e1 : ((((w3.setCell ⟨po, 0, none⟩ (.slice A' n' c')).setCell ⟨pn, 0, none⟩ (.int .i64 (V : Int))).setCell ⟨pe, 0, none⟩ (.int .i64 0)).drewN q).cell? ⟨pn, 0, none⟩ = some (.int .i64 (V : Int)) := by
       have h := ((b1.setOther (a := ⟨po, 0, none⟩) (Ne.symm dne1) (.slice A' n' c')).set_ 0 (.int .i64 (V : Int))).setOther (a := ⟨pe, 0, none⟩) dne3 (.int .i64 0)
       have h1 := h.cell 0
       simpa using h1
      have e2 : ((((w3.setCell ⟨po, 0, none⟩ (.slice A' n' c')).setCell ⟨pn, 0, none⟩ (.int .i64 (V : Int))).setCell ⟨pe, 0, none⟩ (.int .i64 0)).drewN q).cell? ⟨pe, 0, none⟩ = some (.int .i64 0) := by
       have h := ((b2.setOther (a := ⟨po, 0, none⟩) (Ne.symm dne2) (.slice A' n' c')).setOther (a := ⟨pn, 0, none⟩) (Ne.symm dne3) (.int .i64 (V : Int))).set_ 0 (.int .i64 0)
       have h1 := h.cell 0
       simpa using h1
      have hown : ((((w3.setCell ⟨po, 0, none⟩ (.slice A' n' c')).setCell ⟨pn, 0, none⟩ (.int .i64 (V : Int))).setCell ⟨pe, 0, none⟩ (.int .i64 0)).drewN q).ownsRow w.heap.size 5 1 (.slice A' n' c') n' (cs u'.out) := by
       have hpo := HPL.out
       have h := ((own_set_other (own_set_other (own_set_other HU3.out.own (a := ⟨po, 0, none⟩) (by show po < pu + 1; omega) (.slice A' n' c')) (a := ⟨pn, 0, none⟩) (by show pn < pu + 1; omega) (.int .i64 (V : Int))) (a := ⟨pe, 0, none⟩) (by show pe < pu + 1; omega) (.int .i64 0)))
       exact own_base h (by have := HB3.out.size; omega)
      have hBel : Below w.heap.size w ((((w3.setCell ⟨po, 0, none⟩ (.slice A' n' c')).setCell ⟨pn, 0, none⟩ (.int .i64 (V : Int))).setCell ⟨pe, 0, none⟩ (.int .i64 0)).drewN q) := by
       have hpo := HPO.out
       have h23 : Below w.heap.size W2 w3 := HO3.out.below (by have := HB3.out.size; omega) (by have := HB3.out.size; have := HR1.out; omega) (by have := HB3.out.size; have := HB2.out.size; omega) (fun g e => by cases e)
       have h3 := (HB3.out.trans (HB2.out.mono HB3.out.size)).trans h23
       exact below_drewN (((h3.setCell (by show w.heap.size ≤ po; omega) _).setCell (by show w.heap.size ≤ pn; omega) _).setCell (by show w.heap.size ≤ pe; omega) _) q
      have hRes : UnpEnd w (unpF l M) (.returned (.tuple #[.slice A' n' c', .int .i64 (V : Int), .int .i64 0])) _ := .inr ⟨u', A', n', c', hE.out, by rw [HV.out, HA.out], hown, hBel⟩
      generalize ((((w3.setCell ⟨po, 0, none⟩ (.slice A' n' c')).setCell ⟨pn, 0, none⟩ (.int .i64 (V : Int))).setCell ⟨pe, 0, none⟩ (.int .i64 0)).drewN q) = W9 at *
      simp [Leaves, settle, results, Tryz.results23, go_sem, e0, e1, e2, t4, t5, t6]
      exact hRes
     | ret => exact h.elim
     | panic c => exact h.elim
     | exit c => exact h.elim
     | goto c => exact h.elim
     | outgrown => exact h.elim
end
section
open Go.RowKit
set_option maxRecDepth 100000
set_option linter.unusedVariables false
def allF (l : List F) (M : Nat) : Except Nat (List F) := bnd (unpF l M) fun u => if (u.at_ + 7) / 8 < l.length then .error 22 else .ok u.out
def AllEnd (w : World) (R : Except Nat (List F)) (e : Ending) (w' : World) : Prop :=
 (∃ z : Nat, R = .error z ∧ e = .returned (.tuple #[.slice none 0 0, .int .i64 z]) ∧ Below w.heap.size w w') ∨
 (∃ (o : List F) (A : Option Addr) (n c : Nat), R = .ok o ∧ e = .returned (.tuple #[.slice A n c, .int .i64 0]) ∧ w'.ownsRow w.heap.size 5 1 (.slice A n c) n (cs o) ∧ Below w.heap.size w w')
def NZ {α : Type} (x : Except Nat α) : Prop := ∀ z, x = .error z → z ≠ 0
namespace NZ
variable {α β : Type}
theorem bd {p : Except Nat α} {g : α → Except Nat β} (h : NZ p) (hg : ∀ x, NZ (g x)) : NZ (bnd p g) := by
 cases p with
 | error e => intro z hz; injection hz with hz; subst hz; exact h _ rfl
 | ok x => exact hg x
theorem er {z : Nat} (h : z ≠ 0) : NZ (.error z : Except Nat α) := fun y hy => by injection hy with hy; subst hy; exact h
theorem pu (x : α) : NZ (.ok x) := fun z h => by cases h
theorem it {c : Prop} [Decidable c] {p q : Except Nat α} (h1 : c → NZ p) (h2 : ¬ c → NZ q) : NZ (if c then p else q) := by
 by_cases e : c
 ·rw [if_pos e]; exact h1 e
 ·rw [if_neg e]; exact h2 e
theorem num (l : List F) (s : Nat) (u : Un) : NZ (numF l s u) := it (fun _ => pu _) fun _ => er (by decide)
theorem sym (l : List F) (c : List Int) (u : Un) : NZ (symF l c u) := it (fun _ => pu _) fun h => er h
theorem put (m : Nat) (x : F) (u : Un) : NZ (putF m x u) := it (fun _ => pu _) fun _ => er (by decide)
theorem ag (m d k : Nat) : ∀ u, NZ (agF m d k u) := by
 induction k with
 | zero => exact fun u => pu _
 | succ k ih => exact fun u => bd (put _ _ _) ih
theorem mea (l : List F) (b s : Nat) (ok : Bool) (u : Un) : NZ (meantF l b s ok u) := it (fun _ => bd (num _ _ _) fun _ => pu _) fun _ => er (by decide)
theorem mat (l : List F) (m : Nat) (ds : List Int) (s : Nat) (u : Un) : NZ (matchF l m ds s u) :=
 bd (mea _ _ _ _ _) fun _ => bd (sym _ _ _) fun _ => bd (mea _ _ _ _ _) fun _ => it (fun _ => er (by decide)) fun _ => ag _ _ _ _
theorem step (l : List F) (m : Nat) (ls ds : List Int) (u : Un) : NZ (stepF l m ls ds u) :=
 bd (sym _ _ _) fun _ => it (fun _ => pu _) fun _ => bd (it (fun _ => put _ _ _) fun _ => mat _ _ _ _ _) fun _ => pu _
theorem loop {tot : Nat} {f : Un → Except Nat (Bool × Un)} (hf : ∀ u, NZ (f u)) : ∀ n u, tot - u.at_ ≤ n → NZ (loopF tot f u) := by
 intro n
 induction n with
 | zero =>
  intro u hn
  rw [loopF]
  split
  ·rename_i e he; exact er (hf u e he)
  ·exact pu _
  ·rw [dif_neg (by omega)]; exact er (by decide)
 | succ n ih =>
  intro u hn
  rw [loopF]
  split
  ·rename_i e he; exact er (hf u e he)
  ·exact pu _
  ·by_cases e : u.at_ < (‹Un› : Un).at_ ∧ (‹Un› : Un).at_ ≤ tot
   ·rw [dif_pos e]; exact ih _ (by omega)
   ·rw [dif_neg e]; exact er (by decide)
theorem blk (l : List F) (m : Nat) (ls ds : List Int) (u : Un) : NZ (blockF l m ls ds u) := it (fun h => er h) fun _ => it (fun h => er h) fun _ => loop (step l m ls ds) _ u (Nat.le_refl _)
theorem rn (l : List F) (c row : List Int) (u : Un) : NZ (runF l c row u) :=
 bd (sym _ _ _) fun _ => it (fun _ => it (fun _ => er (by decide)) fun _ => bd (num _ _ _) fun _ => pu _) fun _ => it (fun _ => bd (num _ _ _) fun _ => pu _) fun _ => it (fun _ => bd (num _ _ _) fun _ => pu _) fun _ => pu _
theorem lens (l : List F) (c : List Int) (many f : Nat) : ∀ row u, NZ (lensF l c many f row u) := by
 induction f with
 | zero => exact fun row u => er (by decide)
 | succ f ih => exact fun row u => it (fun _ => pu _) fun _ => bd (rn _ _ _ _) fun _ => it (fun _ => er (by decide)) fun _ => ih _ _
theorem own (l : List F) (o : List Nat) : ∀ w u, NZ (ownF l o w u) := by
 induction o with
 | nil => exact fun w u => pu _
 | cons s r ih => exact fun w u => bd (num _ _ _) fun _ => ih _ _
theorem dyn (l : List F) (m : Nat) (u : Un) : NZ (dynF l m u) :=
 bd (bd (num _ _ _) fun _ => bd (num _ _ _) fun _ => bd (num _ _ _) fun _ => it (fun _ => er (by decide)) fun _ => bd (own _ _ _ _) fun _ => it (fun h => er h) fun _ => bd (lens _ _ _ _ _ _) fun _ => it (fun _ => er (by decide)) fun _ => pu _) fun _ => blk _ _ _ _ _
theorem sto (l : List F) (m : Nat) (u : Un) : NZ (stoF l m u) :=
 it (fun _ => er (by decide)) fun _ => it (fun _ => er (by decide)) fun _ => it (fun _ => it (fun _ => er (by decide)) fun _ => er (by decide)) fun _ => it (fun _ => er (by decide)) fun _ => pu _
theorem unb (l : List F) (m : Nat) (u : Un) : NZ (unbF l m u) :=
 bd (num _ _ _) fun _ => bd (num _ _ _) fun _ => bd (it (fun _ => sto _ _ _) fun _ => it (fun _ => blk _ _ _ _ _) fun _ => it (fun _ => dyn _ _ _) fun _ => er (by decide)) fun _ => pu _
end NZ
theorem unpF_no0 {l : List F} {M z : Nat} (h : unpF l M = .error z) : z ≠ 0 := NZ.loop (NZ.unb l M) _ ⟨0, []⟩ (Nat.le_refl _) z h
set_option maxHeartbeats 1000000 in
theorem All_c (w : World) (ht : Tabs w) (B : Option Addr) (k cb : Nat) (l : List F) (hl : Row w B k l) (hk : k ≤ 100000) (m : Int) (M : Nat) (hm : max m 0 = (M : Int)) (hM : M ≤ 1000000) :
  Calls Tryz.prog 20 #[.slice B k cb, .int .i64 m] w fun e w' => AllEnd w (allF l M) e w' := by
 have HU := Lib.hid (Unpack_c w ht B k cb l hl hk m M hm hM)
 have HL := Lib.hid hl.len
 clear ht hl hm hM
 go_enter Tryz.func20, Tryz.ntmps20
 go_wp2_with fail
 refine HU.out.mono ?_
 rintro e w1 (⟨z, g1, rfl, g2⟩ | ⟨u, A, n, c, g1, rfl, g2, g3⟩)
 ·have hz := unpF_no0 g1
  have hne : ((z : Int) != 0) = true := by rw [bne_iff_ne]; omega
  have HE : Hid (allF l M = .error z) := by unfold Hid allF; rw [g1]; rfl
  have HB := Lib.hid g2
  clear g1 g2 hz
  go_wp2
  go_ret2
  exact .inl ⟨z, HE.out, rfl, HB.out⟩
 ·have hat : (u.at_ + 7) / 8 ≤ 100000 := by have := (unpF_pos g1).2.1; have := HL.out; omega
  obtain ⟨a, ha⟩ : ∃ a, a = (u.at_ + 7) / 8 := ⟨_, rfl⟩
  have hA : allF l M = if a < k then .error 22 else .ok u.out := by unfold allF; rw [g1, bnd_ok, ← ha, HL.out]
  rw [← ha] at hat ⊢
  have HA := Lib.hid hA
  have HB := Lib.hid (And.intro g2 g3)
  clear g1 g2 g3 hA ha
  by_cases hlt : a < k
  ·have HE : Hid (allF l M = .error 22) := by unfold Hid; rw [HA.out, if_pos hlt]
   have hd : decide (a < k) = true := decide_eq_true hlt
   go_wp2
   go_ret2
   exact .inl ⟨22, HE.out, rfl, HB.out.2⟩
  ·have HE : Hid (allF l M = .ok u.out) := by unfold Hid; rw [HA.out, if_neg hlt]
   have hd : decide (a < k) = false := decide_eq_false hlt
   go_wp2
   go_ret2
   exact .inr ⟨u.out, A, n, c, HE.out, rfl, HB.out.1, HB.out.2⟩
end
end Go.Proofs.YtldgdofefcehnaaGreatDoor
