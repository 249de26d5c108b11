/-
  VOLUMES: Rest. No conditions (but for how many volumes there are, and bytes).
-/
import Derived.Test.YtfjpbbejhegcjaaVlc
namespace Go.Proofs.Ytfjpbbejhegcjaa
open Go.RowKit
set_option maxRecDepth 100000
set_option linter.unusedVariables false

/-- what Rest is -/
def RsS (RL : Nat → Nat) (R : Nat → List F) (n : Nat) (a : Int) (l : List F) : Prop :=
  (∃ d o : Nat, d < n ∧ o < RL d ∧ a = (lenTo RL d + o : Nat) ∧ l = (R d).drop o) ∨ ((a < 0 ∨ (lenTo RL n : Int) ≤ a) ∧ l = [])
def RsR (w : World) (RL : Nat → Nat) (R : Nat → List F) (n : Nat) (a : Int) (e : Ending) (w' : World) : Prop := ∃ A' N c' l, e = .returned (.slice A' N c') ∧ RowIn w' A' N c' l ∧ RsS RL R n a l ∧ Below w.heap.size w w'
theorem RsR.of {w : World} {RL : Nat → Nat} {R : Nat → List F} {n : Nat} {a : Int} {e : Ending} {w' : World} (A' : Option Addr) (N c' : Nat) (l : List F) (h1 : e = .returned (.slice A' N c')) (h2 : RowIn w' A' N c' l) (h3 : RsS RL R n a l) (h4 : Below w.heap.size w w') : RsR w RL R n a e w' := ⟨A', N, c', l, h1, h2, h3, h4⟩
set_option maxHeartbeats 2000000 in
theorem Rest_c {w : World} {A : Option Addr} {n cap : Nat} {RA : Nat → Option Addr} {RL RC : Nat → Nat} {R : Nat → List F} (h : MIn w A n cap RA RL RC R) (hn : n ≤ 1048576) (hl : ∀ r, r < n → RL r ≤ 1048576) (a : Int) (ha : (Lit.int .i64 a).wf = true) :
    Calls Try.prog 16 #[.slice A n cap, .int .i64 a] w fun e w' => RsR w RL R n a e w' := by
  have H := Lib.hid h
  have HL := Lib.hid hl
  have hle := h.le
  have hmx := h.nmax
  clear h hl
  go_enter Try.func16, Try.ntmps16
  go_wp2_with fail
  refine (Place_c H.out hn HL.out a ha).mono ?_
  rintro e w1 ⟨d, o, ok, rfl, hP, hb1⟩
  have HP := Lib.hid hP
  have hba := (Below.refl w1.heap.size w1).alloc (Nat.le_refl _) (.cells (plC d o) 40)
  have HK := Lib.hid (Blk.new w1 40 (plC d o))
  have HB := Lib.hid (hb1.trans (hba.mono hb1.size))
  have c0 := show _ = some (Value.int .i64 d) from (HK.out.cell 0).trans rfl
  have c1 := show _ = some (Value.int .i64 o) from (HK.out.cell 1).trans rfl
  have lg := HK.out.lt
  clear hP hba hb1
  unfold plV plC at *
  cases ok
  case false =>
    have hrs : RsS RL R n a [] := by
      rcases HP.out with ⟨_, _, _, e4⟩ | ⟨e1, _⟩ | ⟨e1, _⟩
      · exact .inr ⟨by omega, rfl⟩
      · cases e1
      · cases e1
    have HRS := Lib.hid hrs
    clear hrs
    go_wp2_with fail
    go_quiet (fail)
    go_wp2
    go_ret
    exact RsR.of none 0 0 [] rfl (RowIn.nil_ _) HRS.out (below_drewN HB.out _)
  case true =>
    go_wp2_with fail
    generalize w1.alloc (.cells #[.int .i64 d, .int .i64 o] 40) = W at *
    generalize w1.heap.size = g at *
    rcases HP.out with ⟨e1, _⟩ | ⟨_, e2, e3, e4⟩ | ⟨_, e2, e3, e4⟩
    · cases e1
    · subst e2 e3
      have HRS : Hid (RsS RL R d a []) := .inr ⟨by omega, rfl⟩
      have c1' : W.cell? ⟨g, 1, none⟩ = some (.int .i64 0) := c1
      clear c1
      go_region_held3 (fun W' => W'.cell? ⟨g, 0, none⟩ = some (.int .i64 d) ∧ W'.cell? ⟨g, 1, none⟩ = some (.int .i64 0)) (first
          | go_keep
          | (go_split_ands; exact ⟨(hbx.cell (p := ⟨g, 0, none⟩) (by exact lg)).trans (by assumption), (hbx.cell (p := ⟨g, 1, none⟩) (by exact lg)).trans (by assumption)⟩))
        ((first
          | (go_at_call 26
             refine (End_c _ _ _ _).mono ?_
             unfold plV plC
             rintro e wx ⟨rfl, hbx⟩)))
      have HBX : Hid (Below w.heap.size w wx) := (below_drewV HB.out).trans (hbx.mono HB.out.size)
      clear hbx c0 c1' HK
      go_wp2
      go_ret
      exact RsR.of none 0 0 [] rfl (RowIn.nil_ _) HRS.out HBX.out
    · have hne : ((d : Int) == (n : Int)) = false := by rw [beq_eq_false_iff_ne]; omega
      have HRS : Hid (RsS RL R n a ((R d).drop o)) := .inl ⟨d, o, e2, e3, e4, rfl⟩
      have hrl := HL.out d e2
      have E3 := Lib.hid e3
      have E2 := Lib.hid e2
      clear e4
      go_region_held3 (fun W' => W'.cell? ⟨g, 0, none⟩ = some (.int .i64 d) ∧ W'.cell? ⟨g, 1, none⟩ = some (.int .i64 o)) (first
          | go_keep
          | (go_split_ands; exact ⟨(hbx.cell (p := ⟨g, 0, none⟩) (by exact lg)).trans (by assumption), (hbx.cell (p := ⟨g, 1, none⟩) (by exact lg)).trans (by assumption)⟩))
        ((first
          | (go_at_call 26
             refine (End_c _ _ _ _).mono ?_
             unfold plV plC
             rintro e wx ⟨rfl, hbx⟩)))
      have HBX : Hid (Below w.heap.size w wx) := (below_drewV HB.out).trans (hbx.mono HB.out.size)
      have x0 := (hbx.cell (p := ⟨g, 0, none⟩) (by exact lg)).trans (show W.drew.cell? ⟨g, 0, none⟩ = _ from c0)
      have x1 := (hbx.cell (p := ⟨g, 1, none⟩) (by exact lg)).trans (show W.drew.cell? ⟨g, 1, none⟩ = _ from c1)
      have lgx : g < wx.heap.size := Nat.lt_of_lt_of_le lg hbx.size
      clear hbx c0 c1 HK HB
      have hM := H.out.below HBX.out
      obtain ⟨b1, o1, rfl, hl1, q1⟩ := hM.at_ e2
      have hrow := hM.row d e2
      have hrc := hrow.le
      have hsl := (hrow.slice (a := o) (M := RL d) (by omega) (Nat.le_refl _)).2 (by omega)
      have hxl : ((R d).drop o).take (RL d - o) = (R d).drop o := List.take_of_length_le (by rw [List.length_drop, hrow.row.len]; omega)
      rw [hxl] at hsl
      obtain ⟨b2, o2, eA, hl2, _⟩ := hrow.row.at_ (k := o) (by omega)
      have hsl2 : RowIn wx (some ⟨b2, o2 + o, none⟩) (RL d - o) (RC d - o) ((R d).drop o) := by
        have h9 := hsl
        rw [eA] at h9
        have e9 : (⟨b2, o2, none⟩ : Addr).add o = ⟨b2, o2 + o, none⟩ := by unfold Addr.add; split <;> simp_all
        have h8 : RowIn wx (some ((⟨b2, o2, none⟩ : Addr).add o)) (RL d - o) (RC d - o) ((R d).drop o) := h9
        rw [e9] at h8
        exact h8
      have HSL := Lib.hid hsl2
      rw [eA] at q1
      have k1 : (0 : Int) ≤ (d : Int) := by omega
      have k2 : (d : Int) < (n : Int) := by omega
      have k3 : (0 : Int) ≤ (o : Int) := by omega
      have k4 : (o : Int) ≤ (RL d : Int) := by omega
      have k5 : (RL d : Int) ≤ (RC d : Int) := by omega
      have k6 : ¬ (RC d : Int) = (o : Int) := by omega
      have k9 : ¬ RC d = o := by omega
      have k7 : ((RL d : Int) - (o : Int)).toNat = RL d - o := by omega
      have k8 : ((RC d : Int) - (o : Int)).toNat = RC d - o := by omega
      have hN : RL d - o ≤ 1048576 := by omega
      clear hsl hsl2 hxl hrow hM e2 e3 eA
      generalize RL d = rl at *
      generalize RC d = rc at *
      go_wp2_with fail
      go_region_held3 (fun W' => W'.cell? ⟨g, 0, none⟩ = some (.int .i64 d) ∧ W'.cell? ⟨g, 1, none⟩ = some (.int .i64 o) ∧ W'.cell? ⟨b1, o1 + d, none⟩ = some (.slice (some ⟨b2, o2, none⟩) rl rc)) (first
          | go_keep
          | (go_split_ands; exact ⟨(hby.cell (p := ⟨g, 0, none⟩) (by exact lgx)).trans (by assumption), (hby.cell (p := ⟨g, 1, none⟩) (by exact lgx)).trans (by assumption), (hby.cell (p := ⟨b1, o1 + d, none⟩) (by exact hl1)).trans (by assumption)⟩))
        ((first
          | (go_at_call 20
             have hcl := Clone_c (some ⟨b2, o2 + o, none⟩) (rl - o) (rc - o) ((R d).drop o) wx.drew (HSL.out.row.drew) (by omega)
             with_reducible refine hcl.mono ?_
             clear hcl
             rintro e wy ⟨A', c', rfl, hown, hby⟩)))
      go_wp2
      go_ret
      exact RsR.of _ _ _ _ rfl (own_in hown) HRS.out (Below.then_ (below_drewV HBX.out) hby)
end Go.Proofs.Ytfjpbbejhegcjaa
