/-
  THE CONTRACTS OF the unpacker's run, lengths. No conditions.
-/
import Derived.Test.YtbphbogolffanaaDoorInfG
namespace Go.Proofs.YtbphbogolffanaaDoor
open Go.RowKit
set_option maxRecDepth 100000
set_option linter.unusedVariables false

/-- a block that an unpacker doesn't write -/
def Apt (p r : Nat) (a : Option Nat) (B : Option Addr) : Prop := ∀ b o, B = some ⟨b, o, none⟩ → b ≠ p ∧ b ≠ r ∧ a ≠ some b
theorem UOut.irow {w w' : World} {p r n : Nat} {a b : Option Nat} {B : Option Addr} {k : IntKind} {l : List Int} (h : UOut p r a b w w') (hr : IRow w B n k l) (hB : Apt p r a B) : IRow w' B n k l := by
  refine ⟨hr.len, hr.max, fun hn => ?_, hr.wf⟩
  obtain ⟨b', o, e, hl, hc⟩ := hr.cells hn
  obtain ⟨h1, h2, h3⟩ := hB b' o e
  refine ⟨b', o, e, Nat.lt_of_lt_of_le hl h.size, fun i hi => ?_⟩
  rw [World.cell?_of_block (a := ⟨b', o + i, none⟩) (h.block b' hl h1 h2 h3)]
  exact hc i hi
section
variable {w : World} {H p r : Nat} {RA : Option Addr} {len rc : Nat} {l : List F} {A : Option Addr} {n c : Nat} {u : Un} {m : Nat} {x : Value}
theorem num_c (h : UnP w H p r RA len rc l A n c u m x) (s : Nat) (hs : s ≤ 32) :
    Calls Tryd.prog 23 #[.pointer (some ⟨p, 0, none⟩), .int .i64 s] w fun e w' =>
      (∃ k, numF l s u = .error k ∧ e = .panicked [{ v := .iface 24 (.int .i64 k), recovered := false }] ∧ UOut p r (Value.slice A n c).ownBlock (Value.slice A n c).ownBlock w w') ∨
      (∃ v u', numF l s u = .ok (v, u') ∧ v < 2 ^ s ∧ e = .returned (.int .i64 (v : Nat)) ∧ UnP w' H p r RA len rc l A n c u' m x ∧ UOut p r (Value.slice A n c).ownBlock (Value.slice A n c).ownBlock w w') := by
  cases hf : numF l s u with
  | error k => exact (num_no h s hs hf).mono fun e w' ⟨h1, h2⟩ => .inl ⟨k, rfl, h1, h2⟩
  | ok y =>
    obtain ⟨v, u'⟩ := y
    have hv : v < 2 ^ s := by
      obtain ⟨_, e⟩ := numF_inv hf
      injection e with e _
      rw [e]
      exact numB_lt _ _ _
    exact (num_ok h s hs hf).mono fun e w' ⟨h1, h2, h3⟩ => .inr ⟨v, u', rfl, hv, h1, h2, h3⟩
set_option maxHeartbeats 2000000 in
theorem run_c {q k cb : Nat} {cl row : List Int} {B : Option Addr} (h : UnP w H p r RA len rc l A n c u m x) (ht : Tbl w p r (Value.slice A n c).ownBlock q cl) (hrow : IRow w B k .i64 row) (hB : Apt p r (Value.slice A n c).ownBlock B) (hk : k ≤ 1000000) :
    Calls Tryd.prog 62 #[.pointer (some ⟨p, 0, none⟩), .pointer (some ⟨q, 0, none⟩), .slice B k cb] w fun e w' =>
      (∃ k, runF l cl row u = .error k ∧ e = .panicked [{ v := .iface 24 (.int .i64 k), recovered := false }] ∧ UOut p r (Value.slice A n c).ownBlock (Value.slice A n c).ownBlock w w') ∨
      (∃ y t u', runF l cl row u = .ok ((y, t), u') ∧ t ≤ 200 ∧ e = .returned (.tuple #[.int .i64 y, .int .i64 (t : Nat)]) ∧ UnP w' H p r RA len rc l A n c u' m x ∧ UOut p r (Value.slice A n c).ownBlock (Value.slice A n c).ownBlock w w') := by
  have HS := Lib.hid (sym_c h ht)
  have HB := Lib.hid hB
  have HR := Lib.hid hrow
  have hlen := ht.len
  clear h ht hB hrow
  go_enter Tryd.func62, Tryd.ntmps62
  go_wp2_with fail
  refine HS.out.mono ?_
  rintro e w1 (⟨k2, g1, rfl, g2⟩ | ⟨s, u1, g1, hs, rfl, g2, g3⟩)
  · have HF : Hid (runF l cl row u = .error k2) := by unfold Hid runF; rw [g1]; rfl
    have HO := Lib.hid g2
    clear g1 g2
    go_wp2
    exact ⟨rfl, .inl ⟨k2, HF.out, rfl, HO.out⟩⟩
  · have HU := Lib.hid g2
    have HO := Lib.hid g3
    have HF := Lib.hid g1
    have hs288 : s < 288 := by omega
    clear g1 g2 g3 hs hlen
    by_cases e16 : s = 16
    · subst e16
      by_cases hk0 : k = 0
      · subst hk0
        have HE : Hid (runF l cl row u = .error 34) := by
          unfold Hid runF
          rw [HF.out, bnd_ok, if_pos rfl, if_pos HR.out.len]
        go_wp2
        exact ⟨rfl, .inl ⟨34, HE.out, rfl, HO.out⟩⟩
      · have hk1 : ((k : Int) == 0) = false := by rw [beq_eq_false_iff_ne]; omega
        have HE : Hid (runF l cl row u = bnd (numF l 2 u1) fun q => .ok ((gi row (k - 1), 3 + q.1), q.2)) := by
          unfold Hid runF
          rw [HF.out, bnd_ok, if_pos rfl, if_neg (by rw [HR.out.len]; exact hk0), HR.out.len]
        have hrow1 := HO.out.irow HR.out HB.out
        obtain ⟨b1, o1, rfl, hb1, q1⟩ := hrow1.at_ (i := k - 1) (by omega)
        have hsub : IntKind.i64.wrap ((k : Int) - 1) = ((k - 1 : Nat) : Int) := (IntWalk.i64_in _ (by omega)).trans (by omega)
        have hin : ((k - 1 : Nat) : Int) < (k : Int) := by omega
        have hin0 : (0 : Int) ≤ ((k - 1 : Nat) : Int) := by omega
        obtain ⟨y, hy⟩ : ∃ y, y = gi row (k - 1) := ⟨_, rfl⟩
        obtain ⟨z, hz⟩ : ∃ z, z = k - 1 := ⟨_, rfl⟩
        rw [← hy] at q1 HE
        rw [← hz] at q1 hsub hin hin0
        have HN := Lib.hid (num_c (HU.out.drewN 1) 2 (by omega))
        have hap := HB.out b1 o1 rfl
        clear hrow1 hy hz hk0
        cases hnf : numF l 2 u1 with
        | error k2 =>
          have HE2 : Hid (runF l cl row u = .error k2) := by unfold Hid; rw [HE.out, hnf]; rfl
          have HN2 := Lib.hid (num_no (HU.out.drewN 1) 2 (by omega) hnf)
          clear hnf HN
          go_wp2
          go_region_dies
          all_goals
            refine HN2.out.mono ?_
            rintro e w2 ⟨rfl, hO2⟩
            have HO2 := Lib.hid ((HO.out.drewN 1).trans hO2)
            clear hO2
            go_wp2
            exact ⟨rfl, .inl ⟨k2, HE2.out, rfl, HO2.out⟩⟩
        | ok v =>
          obtain ⟨v, u2⟩ := v
          have HE2 : Hid (runF l cl row u = .ok ((y, 3 + v), u2)) := by unfold Hid; rw [HE.out, hnf]; rfl
          have HN2 := Lib.hid (num_ok (HU.out.drewN 1) 2 (by omega) hnf)
          have hv : v < 4 := by
            obtain ⟨_, e⟩ := numF_inv hnf
            injection e with e _
            rw [e]
            exact numB_lt _ _ 2
          have hsum : IntKind.i64.wrap (3 + (v : Int)) = ((3 + v : Nat) : Int) := (IntWalk.i64_in _ (by omega)).trans (by omega)
          clear hnf HN
          go_wp2
          go_region_held3 (fun w' => w'.cell? ⟨b1, o1 + z, none⟩ = some (.int .i64 y))
            (first
              | go_keep
              | (rw [World.cell?_of_block (a := ⟨b1, o1 + z, none⟩) (hO2.block b1 (by exact hb1) hap.1 hap.2.1 hap.2.2)]; assumption))
            ((go_at_call 23; refine HN2.out.mono ?_; rintro e w2 ⟨rfl, hU2, hO2⟩))
          have HO2 := Lib.hid ((HO.out.drewN 1).trans hO2)
          have HU2 := Lib.hid hU2
          clear hO2 hU2
          go_wp2
          go_ret2
          exact .inr ⟨y, 3 + v, u2, HE2.out, by omega, rfl, HU2.out, HO2.out⟩
    · have n16 : ((s : Int) == 16) = false := by rw [beq_eq_false_iff_ne]; omega
      by_cases e17 : s = 17
      · subst e17
        have HE : Hid (runF l cl row u = bnd (numF l 3 u1) fun q => .ok ((0, 3 + q.1), q.2)) := by
          unfold Hid runF
          rw [HF.out]
          rfl
        have HN := Lib.hid (num_c HU.out 3 (by omega))
        clear e16
        go_wp2_with fail
        refine HN.out.mono ?_
        rintro e w2 (⟨k2, g1, rfl, g2⟩ | ⟨v, u2, g1, hv, rfl, g2, g3⟩)
        · have HE2 : Hid (runF l cl row u = .error k2) := by unfold Hid; rw [HE.out, g1]; rfl
          have HO2 := Lib.hid (HO.out.trans g2)
          clear g1 g2
          go_wp2
          exact ⟨rfl, .inl ⟨k2, HE2.out, rfl, HO2.out⟩⟩
        · have HE2 : Hid (runF l cl row u = .ok ((0, 3 + v), u2)) := by unfold Hid; rw [HE.out, g1]; rfl
          have HO2 := Lib.hid (HO.out.trans g3)
          have HU2 := Lib.hid g2
          have hsum : Hid (3 + (v : Int) = ((3 + v : Nat) : Int)) := by unfold Hid; omega
          have hv8 : v < 8 := hv
          clear g1 g2 g3 hv
          go_wp2
          go_ret2
          rw [hsum.out]
          exact .inr ⟨0, 3 + v, u2, HE2.out, by omega, rfl, HU2.out, HO2.out⟩
      · have n17 : ((s : Int) == 17) = false := by rw [beq_eq_false_iff_ne]; omega
        by_cases e18 : s = 18
        · subst e18
          have HE : Hid (runF l cl row u = bnd (numF l 7 u1) fun q => .ok ((0, 11 + q.1), q.2)) := by
            unfold Hid runF
            rw [HF.out]
            rfl
          have HN := Lib.hid (num_c HU.out 7 (by omega))
          clear e16 e17
          go_wp2_with fail
          refine HN.out.mono ?_
          rintro e w2 (⟨k2, g1, rfl, g2⟩ | ⟨v, u2, g1, hv, rfl, g2, g3⟩)
          · have HE2 : Hid (runF l cl row u = .error k2) := by unfold Hid; rw [HE.out, g1]; rfl
            have HO2 := Lib.hid (HO.out.trans g2)
            clear g1 g2
            go_wp2
            exact ⟨rfl, .inl ⟨k2, HE2.out, rfl, HO2.out⟩⟩
          · have HE2 : Hid (runF l cl row u = .ok ((0, 11 + v), u2)) := by unfold Hid; rw [HE.out, g1]; rfl
            have HO2 := Lib.hid (HO.out.trans g3)
            have HU2 := Lib.hid g2
            have hsum : Hid (11 + (v : Int) = ((11 + v : Nat) : Int)) := by unfold Hid; omega
            have hv8 : v < 128 := hv
            clear g1 g2 g3 hv
            go_wp2
            go_ret2
            rw [hsum.out]
            exact .inr ⟨0, 11 + v, u2, HE2.out, by omega, rfl, HU2.out, HO2.out⟩
        · have n18 : ((s : Int) == 18) = false := by rw [beq_eq_false_iff_ne]; omega
          have HE : Hid (runF l cl row u = .ok (((s : Nat), 1), u1)) := by
            unfold Hid runF
            rw [HF.out, bnd_ok, if_neg e16, if_neg e17, if_neg e18]
          clear e16 e17 e18
          go_wp2
          go_ret2
          exact .inr ⟨(s : Nat), 1, u1, HE.out, by omega, rfl, HU.out, HO.out⟩
end
end Go.Proofs.YtbphbogolffanaaDoor
