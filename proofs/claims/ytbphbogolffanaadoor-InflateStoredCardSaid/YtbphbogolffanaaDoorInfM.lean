/-
  THE CONTRACT OF the unpacker's block. No conditions.
-/
import Derived.Test.YtbphbogolffanaaDoorInfK
namespace Go.Proofs.YtbphbogolffanaaDoor
open Go.RowKit
set_option maxRecDepth 100000
set_option linter.unusedVariables false

section
variable {w : World} {H p r : Nat} {RA : Option Addr} {len rc : Nat} {l : List F} {A : Option Addr} {n c : Nat} {u : Un} {m : Nat} {x : Value}
/-- a block was unpacked, or the panic -/
def BlkEnd (w : World) (T : TypeId) (H p r : Nat) (RA : Option Addr) (len rc : Nat) (l : List F) (a : Option Nat) (u : Un) (m : Nat) (e : Ending) (w' : World) : Prop :=
  (∃ z, unbF l m u = .error z ∧ e = .panicked [{ v := .iface T (.int .i64 (z : Nat)), recovered := false }] ∧ ∃ b, UOut p r a b w w') ∨
  (∃ last u' A' n' c' x', unbF l m u = .ok (last, u') ∧ e = .returned (.bool (!last)) ∧ UnP w' H p r RA len rc l A' n' c' u' m x' ∧ FxOk w' p r (Value.slice A' n' c').ownBlock x' ∧ UOut p r a (Value.slice A' n' c').ownBlock w w')
theorem last_of (v : Nat) : decide (v ≠ 0) = !((v : Int) == 0) := by
  by_cases h : v = 0
  · subst h; rfl
  · rw [decide_eq_true h]
    have : ((v : Int) == 0) = false := by rw [beq_eq_false_iff_ne]; omega
    rw [this]; rfl
theorem blkEnd_of {T : TypeId} {w1 : World} {v : Nat} {a a1 : Option Nat} {R : Except Nat Un} {e : Ending} {w' : World}
    (hO : UOut p r a a1 w w1) (hR : unbF l m u = bnd R fun u2 => .ok (decide (v ≠ 0), u2)) (hx : ∀ b w', UOut p r a1 b w1 w' → FxOk w' p r b x) (h : Went T w1 p r a1 R H RA len rc l m x (.tuple #[]) e w') :
    (∃ z, unbF l m u = .error z ∧ e = .panicked [{ v := .iface T (.int .i64 (z : Nat)), recovered := false }] ∧ ∃ b, UOut p r a b w w') ∨
    (∃ u' A' n' c', unbF l m u = .ok (decide (v ≠ 0), u') ∧ e = .returned (.tuple #[]) ∧ UnP w' H p r RA len rc l A' n' c' u' m x ∧ FxOk w' p r (Value.slice A' n' c').ownBlock x ∧ UOut p r a (Value.slice A' n' c').ownBlock w w') := by
  rcases h with ⟨k, h1, h2, b, h3⟩ | ⟨u', A', n', c', h1, h2, h3, h4⟩
  · exact .inl ⟨k, by rw [hR, h1]; rfl, h2, b, hO.trans h3⟩
  · exact .inr ⟨u', A', n', c', by rw [hR, h1]; rfl, h2, h3, hx _ _ h4, hO.trans h4⟩
set_option maxHeartbeats 4000000 in
theorem block_c (h : UnP w H p r RA len rc l A n c u m x) (hx : FxOk w p r (Value.slice A n c).ownBlock x) :
    Calls Tryd.prog 14 #[.pointer (some ⟨p, 0, none⟩)] w fun e w' => BlkEnd w 24 H p r RA len rc l (Value.slice A n c).ownBlock u m e w' := by
  have HN := Lib.hid (num_c h 1 (by omega))
  have HX := Lib.hid hx
  clear h hx
  go_enter Tryd.func14, Tryd.ntmps14
  go_wp2_with fail
  refine HN.out.mono ?_
  rintro e w1 (⟨z, g1, rfl, g2⟩ | ⟨v1, u1, g1, hv1, rfl, g2, g3⟩)
  · have HE : Hid (unbF l m u = .error z) := by unfold Hid unbF; rw [g1]; rfl
    have HO := Lib.hid g2
    clear g1 g2
    go_wp2
    exact ⟨rfl, .inl ⟨z, HE.out, rfl, _, HO.out⟩⟩
  have HF1 := Lib.hid g1
  have HO1 := Lib.hid g3
  have HN1 := Lib.hid (num_c g2 2 (by omega))
  have HLAST := Lib.hid (last_of v1)
  clear g1 g2 g3 HN hv1
  go_wp2_with fail
  refine HN1.out.mono ?_
  rintro e w2 (⟨z, g1, rfl, g2⟩ | ⟨k, u2, g1, hk, rfl, g2, g3⟩)
  · have HE : Hid (unbF l m u = .error z) := by unfold Hid unbF; rw [HF1.out, bnd_ok, g1]; rfl
    have HO := Lib.hid (HO1.out.trans g2)
    clear g1 g2
    go_wp2
    exact ⟨rfl, .inl ⟨z, HE.out, rfl, _, HO.out⟩⟩
  have HO2 := Lib.hid (HO1.out.trans g3)
  have HU2 := Lib.hid g2
  have hk4 : k < 4 := hk
  have HU : Hid (unbF l m u = bnd (if k = 0 then stoF l m u2 else if k = 1 then blockF l m fixL fixD u2 else if k = 2 then dynF l m u2 else .error 32) fun u3 => .ok (decide (v1 ≠ 0), u3)) := by
    unfold Hid unbF
    rw [HF1.out, bnd_ok, g1, bnd_ok]
  clear g1 g2 g3 hk HN1 HO1 HF1
  by_cases k0 : k = 0
  · subst k0
    have HR : Hid (unbF l m u = bnd (stoF l m u2) fun u3 => .ok (decide (v1 ≠ 0), u3)) := HU.out
    have HS := Lib.hid (stored_c HU2.out)
    clear HU
    go_wp2_with fail
    refine HS.out.mono ?_
    rintro e w3 hW
    rcases blkEnd_of HO2.out HR.out (fun b w' ho => (HX.out.step HO2.out).step ho) hW with ⟨z, g1, rfl, b, g2⟩ | ⟨u', A', n', c', g1, rfl, g2, g3, g4⟩
    · have HE := Lib.hid g1
      have HO := Lib.hid g2
      clear g1 g2 hW
      go_wp2
      exact ⟨rfl, .inl ⟨z, HE.out, rfl, b, HO.out⟩⟩
    · have HE := Lib.hid g1
      have HO := Lib.hid (And.intro g2 (And.intro g3 g4))
      clear g1 g2 g3 g4 hW
      go_wp2
      go_ret
      refine .inr ⟨_, u', A', n', c', x, HE.out, ?_, HO.out.1, HO.out.2.1, HO.out.2.2⟩
      rw [HLAST.out]
      simp
  have n0 : ((k : Int) == 0) = false := by rw [beq_eq_false_iff_ne]; omega
  by_cases k1 : k = 1
  · subst k1
    have HR : Hid (unbF l m u = bnd (blockF l m fixL fixD u2) fun u3 => .ok (decide (v1 ≠ 0), u3)) := HU.out
    have HS := Lib.hid (fixedCodes_c HU2.out (HX.out.step HO2.out))
    clear HU k0
    go_wp2_with fail
    refine HS.out.mono ?_
    rintro e w3 ⟨q, rfl, g1, g2, g3⟩
    have HO3 := Lib.hid (HO2.out.trans g3)
    have HC := Lib.hid (coded_c g1 g2)
    have HCD := Lib.hid g2
    clear g1 g2 g3 HS
    go_wp2_with fail
    refine HC.out.mono ?_
    rintro e w4 hW
    rw [← blockF_ok fix_ok.1 fix_ok.2] at hW
    rcases blkEnd_of HO3.out HR.out (fun b w' ho => .inr ⟨q, rfl, HCD.out.step ho⟩) hW with ⟨z, g1, rfl, b, g2⟩ | ⟨u', A', n', c', g1, rfl, g2, g3, g4⟩
    · have HE := Lib.hid g1
      have HO := Lib.hid g2
      clear g1 g2 hW
      go_wp2
      exact ⟨rfl, .inl ⟨z, HE.out, rfl, b, HO.out⟩⟩
    · have HE := Lib.hid g1
      have HO := Lib.hid (And.intro g2 (And.intro g3 g4))
      clear g1 g2 g3 g4 hW
      go_wp2
      go_ret
      refine .inr ⟨_, u', A', n', c', _, HE.out, ?_, HO.out.1, HO.out.2.1, HO.out.2.2⟩
      rw [HLAST.out]
      simp
  have n1 : ((k : Int) == 1) = false := by rw [beq_eq_false_iff_ne]; omega
  by_cases k2 : k = 2
  · subst k2
    have HR : Hid (unbF l m u = bnd (dynF l m u2) fun u3 => .ok (decide (v1 ≠ 0), u3)) := HU.out
    have HS := Lib.hid (dynamicCodes_c HU2.out)
    clear HU k0 k1
    go_wp2_with fail
    refine HS.out.mono ?_
    rintro e w3 (⟨z, g1, rfl, g2⟩ | ⟨ls, ds, u3, q, g1, g2, g3, rfl, g4, g5, g6⟩)
    · have HE : Hid (unbF l m u = .error z) := by
        unfold Hid
        rw [HR.out]
        unfold dynF
        rcases g1 with g1 | ⟨ls, ds, u', g1, g3⟩
        · rw [g1]; rfl
        · rw [g1, bnd_ok, blockF_err g3]; rfl
      have HO := Lib.hid (HO2.out.trans g2)
      clear g1 g2
      go_wp2
      exact ⟨rfl, .inl ⟨z, HE.out, rfl, _, HO.out⟩⟩
    have HO3 := Lib.hid (HO2.out.trans g6)
    have HC := Lib.hid (coded_c g5 g4)
    have HB : Hid (dynF l m u2 = codedF l m ls ds u3) := by unfold Hid dynF; rw [g1, bnd_ok, blockF_ok g2 g3]
    clear g1 g2 g3 g4 g5 g6 HS
    go_wp2_with fail
    refine HC.out.mono ?_
    rintro e w4 hW
    rw [← HB.out] at hW
    rcases blkEnd_of HO3.out HR.out (fun b w' ho => (HX.out.step HO3.out).step ho) hW with ⟨z, g1, rfl, b, g2⟩ | ⟨u', A', n', c', g1, rfl, g2, g3, g4⟩
    · have HE := Lib.hid g1
      have HO := Lib.hid g2
      clear g1 g2 hW
      go_wp2
      exact ⟨rfl, .inl ⟨z, HE.out, rfl, b, HO.out⟩⟩
    · have HE := Lib.hid g1
      have HO := Lib.hid (And.intro g2 (And.intro g3 g4))
      clear g1 g2 g3 g4 hW
      go_wp2
      go_ret
      refine .inr ⟨_, u', A', n', c', x, HE.out, ?_, HO.out.1, HO.out.2.1, HO.out.2.2⟩
      rw [HLAST.out]
      simp
  have n2 : ((k : Int) == 2) = false := by rw [beq_eq_false_iff_ne]; omega
  have HE : Hid (unbF l m u = .error 32) := by unfold Hid; rw [HU.out, if_neg k0, if_neg k1, if_neg k2]; rfl
  clear k0 k1 k2 HU
  go_wp2
  exact ⟨rfl, .inl ⟨32, HE.out, rfl, _, HO2.out⟩⟩
end
end Go.Proofs.YtbphbogolffanaaDoor
