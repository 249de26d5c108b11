/-
  LAW 10's WALK: CanonReads: it returns true, and writes nothing that was there. No conditions.
-/
import Derived.Test.YtanhgjaokgnlhaaLaw10
import Derived.Test.YtanhgjaokgnlhaaCanD
namespace Go.Proofs.Ytanhgjaokgnlhaa
open Go.RowKit
set_option maxRecDepth 100000
set_option linter.unusedVariables false

theorem gbit_bits (bl : List F) : gbit (bitsOf bl) = rb bl := by
  funext i
  unfold bitsOf
  by_cases h : i < 8 * bl.length
  · unfold gbit
    simp [h]
  · rw [gbit_ge (by simp; omega)]
    unfold rb
    rw [gt_ge (by omega)]
    show false = Nat.testBit 0 _
    simp
/-- a table, a reader, the document's codes and bits -/
structure RdsIn (w0 w : World) (p n : Nat) (l : List Int) (gc : Nat) (LA : Option Addr) (lc : Nat) (S : Nat → Value) (r : Nat) (RA : Option Addr) (m rc : Nat) (bl : List F) (a gk g gcap : Nat) : Prop where
  tab : TabIn w p n l gc LA lc S
  far : FarT r p n gc LA S
  rd : RdB w r RA m rc bl a
  codes : ∀ i, i < n → gk < w.heap.size ∧ w.cell? ⟨gk, i, none⟩ = some (.int .u32 ((codeN l i : Nat) : Int))
  gkr : gk ≠ r
  all : RowIn w (some ⟨g, 0, none⟩) (8 * m) gcap (bc (bitsOf bl))
  gr : g ≠ r
  bel : Below w0.heap.size w0 w
  low : w0.heap.size ≤ r
section
variable {w0 w w' : World} {p n : Nat} {l : List Int} {gc : Nat} {LA : Option Addr} {lc : Nat} {S : Nat → Value} {r : Nat} {RA : Option Addr} {m rc : Nat} {bl : List F} {a a' gk g gcap : Nat}
theorem RdsIn.out (h : RdsIn w0 w p n l gc LA lc S r RA m rc bl a gk g gcap) (hr : RdB w' r RA m rc bl a') (ho : Out r (r + 1) w w') : RdsIn w0 w' p n l gc LA lc S r RA m rc bl a' gk g gcap := by
  have hs := ho.size
  refine ⟨h.tab.out h.far ho, h.far, hr, fun i hi => ?_, h.gkr, h.all.outOf ho (fun b o e => by injection e with e; injection e with e; have := h.gr; omega), h.gr, h.bel.trans (ho.lowAt h.low h.rd.lt), h.low⟩
  obtain ⟨h1, h2⟩ := h.codes i hi
  refine ⟨by omega, ?_⟩
  rw [World.cell?_of_block (a := ⟨gk, i, none⟩) (ho.block gk h1 (by have := h.gkr; omega))]
  exact h2
theorem RdsIn.below (h : RdsIn w0 w p n l gc LA lc S r RA m rc bl a gk g gcap) (hb : Below w.heap.size w w') : RdsIn w0 w' p n l gc LA lc S r RA m rc bl a gk g gcap := by
  have hs := hb.size
  refine ⟨h.tab.below hb, h.far, h.rd.below hb, fun i hi => ?_, h.gkr, h.all.below hb, h.gr, h.bel.trans (hb.mono h.bel.size), h.low⟩
  obtain ⟨h1, h2⟩ := h.codes i hi
  exact ⟨by omega, (hb.cell (p := ⟨gk, i, none⟩) h1).trans h2⟩
end
set_option maxHeartbeats 4000000 in
theorem walk_CanonReads (w : World) (A : Option Addr) (n ca : Nat) (l : List Int) (hl : IRow w A n .i64 l) (B : Option Addr) (m cb : Nat) (bl : List F) (hb : RowIn w B m cb bl) :
    Calls Try.prog 4 #[.slice A n ca, .slice B m cb] w fun e w' => e = .returned (.bool true) ∧ Below w.heap.size w w' := by
  have hnm := hl.max'
  have hmm := hb.row.max
  by_cases h40 : (40 : Int) < (n : Int)
  · go_enter Try.func4, Try.ntmps4
    go_wp2_with (go_at_call 8; refine (alive10_c _).mono ?_; rintro e w1 ⟨rfl, hb1⟩)
    go_ret
    exact ⟨rfl, hb1⟩
  by_cases h30 : (30 : Int) < (m : Int)
  · go_enter Try.func4, Try.ntmps4
    go_wp2_with (go_at_call 8; refine (alive10_c _).mono ?_; rintro e w1 ⟨rfl, hb1⟩)
    go_ret
    exact ⟨rfl, hb1⟩
  have d1 : decide ((40 : Int) < (n : Int)) = false := decide_eq_false h40
  have d2 : decide ((30 : Int) < (m : Int)) = false := decide_eq_false h30
  have hn40 : n ≤ 40 := by omega
  have hm30 : m ≤ 30 := by omega
  by_cases herr : errC l n = 0
  · have HE := Lib.hid herr
    clear herr
    go_enter Try.func4, Try.ntmps4
    go_wp2_with (go_at_call 8; refine (alive10_c _).mono ?_; rintro e w1 ⟨rfl, hB1⟩)
    have hl1 := hl.below hB1
    refine (New_ok A n ca l w1 hl1 HE.out).mono ?_
    rintro e w2 ⟨p, gc, LA, lc, S, rfl, hT2, hb2⟩
    have hB2 := hB1.trans (hb2.mono hB1.size)
    have hl2 := hl1.below hb2
    clear hb2 hl1 hB1
    go_wp2_with fail
    refine (RefCodes_c A n ca l w2 hl2).mono ?_
    rintro e w3 (⟨he, _⟩ | ⟨_, gk, rfl, hk3, hb3⟩)
    · exact absurd HE.out he
    have hB3 := hB2.trans (hb3.mono hB2.size)
    have hT3 := hT2.below hb3
    clear hT2 hl2 hb3 hB2
    have hrow3 := (hb.below hB3).row
    go_wp2_with fail
    refine (ReadB_c B m cb bl w3 hrow3 (by omega)).mono ?_
    rintro e w4 ⟨r, RA, rc, rfl, hR4, hr4, hb4⟩
    have hB4 := hB3.trans (hb4.mono hB3.size)
    have hT4 := hT3.below hb4
    have hk4 := own_below hk3 hb4
    have hfar := hT3.far hr4
    have hgkr : gk ≠ r := by have := (hk3.lt gk rfl).2; omega
    have hlow : w.heap.size ≤ r := Nat.le_trans hB3.size hr4
    have hrow4 := hrow3.below hb4
    have hr4l := hR4.lt
    clear hk3 hT3 hb4 hB3 hrow3
    go_wp2_with fail
    refine (RefBits_c B m cb bl w4 hrow4 (by omega)).mono ?_
    rintro e w5 ⟨g, gcap, rfl, hg5, hb5⟩
    have hgr : g ≠ r := by
      rcases hg5.2 with ⟨hv, _⟩ | ⟨g', cap, cur, hv, hbg, _⟩
      · cases hv
      · injection hv with hv; injection hv with hv; injection hv with hv; omega
    have hI : RdsIn w w5 p n l gc LA lc S r RA m rc bl 0 gk g gcap := by
      have hk5 := own_below hk4 hb5
      refine ⟨hT4.below hb5, hfar, hR4.below hb5, fun i hi => ⟨(hk5.lt gk rfl).2, ?_⟩, hgkr, own_in hg5, hgr, hB4.trans (hb5.mono hB4.size), hlow⟩
      rw [hk5.cellAt i (by omega), us_at _ hi]
    clear hT4 hR4 hk4 hg5 hb5 hB4 hrow4 hgr hgkr hfar hlow
    go_wp2
    go_loopw [11, 50] (fun at_ i wr => ∃ k a : Nat, k ≤ 40 ∧ a ≤ 8 * m ∧ i = .int .i64 k ∧ at_ = .int .i64 a ∧ RdsIn w wr p n l gc LA lc S r RA m rc bl a gk g gcap) (fun _ i _ => 40 - (intOf i).toNat)
    case atStart => exact ⟨0, 0, by omega, by omega, rfl, rfl, hI⟩
    case round =>
      clear hI
      obtain ⟨k, a, hk, ha, rfl, rfl, hI⟩ := hrel
      by_cases hlt : k < 40
      · have hk40 : (k : Int) < 40 := by omega
        go_wp2_with fail
        refine (ReadT_c hI.tab hI.rd hI.far).mono ?_
        rintro e w6 ⟨s, q, er, rfl, hrd, hR6, hO6⟩
        have hI6 := hI.out hR6 hO6
        have HRD := Lib.hid hrd
        clear hrd hO6 hI hR6
        go_wp2_with fail
        refine (RefRead_c A (some ⟨g, 0, none⟩) ca gcap n (bitsOf bl) w6 (hl.below hI6.bel) hI6.codes hI6.all (by omega) ha hI6.tab.ok).mono ?_
        rintro e w7 ⟨s', q', er', rfl, hrd', hb7⟩
        rw [gbit_bits] at hrd'
        obtain ⟨rfl, rfl, rfl⟩ := RdS.unique hI6.tab.ok.right (by rw [hI6.tab.ok.len]; exact hI6.tab.ok.fit) hrd' HRD.out
        have hI7 := hI6.below hb7
        have hle := hI7.rd.le
        clear hrd' hb7 hI6
        by_cases he20 : er' = 20
        · subst he20
          go_wp2
          go_ret
          exact ⟨rfl, hI7.bel⟩
        · have hei : ((er' : Int) == 20) = false := by rw [beq_eq_false_iff_ne]; omega
          clear he20
          go_wp2_with (go_at_call 17; refine (AtB_c hI7.rd).mono ?_; rintro e _ ⟨rfl, rfl⟩)
          go_roundw
          case rel => exact ⟨k + 1, a + q', by omega, by omega, by go_num, by go_num, hI7⟩
          case measure => simp [intOf]; omega
      · obtain rfl : k = 40 := by omega
        go_wp2
        go_ret
        exact ⟨rfl, hI.bel⟩
  · obtain ⟨x, hx⟩ : ∃ x, x = errC l n := ⟨_, rfl⟩
    have hnew := fun W h => New_no A n ca l W h herr
    have href := fun W h => RefCodes_c A n ca l W h
    rw [← hx] at hnew href herr
    have HN := Lib.hid hnew
    have HF := Lib.hid href
    have hne : ((x : Int) != 0) = true := by rw [bne_iff_ne]; omega
    have HX := Lib.hid herr
    clear hnew href hx herr
    go_enter Try.func4, Try.ntmps4
    go_wp2_with (go_at_call 8; refine (alive10_c _).mono ?_; rintro e w1 ⟨rfl, hB1⟩)
    have hl1 := hl.below hB1
    refine (HN.out w1 hl1).mono ?_
    rintro e w2 ⟨rfl, hb2⟩
    have hB2 := hB1.trans (hb2.mono hB1.size)
    have hl2 := hl1.below hb2
    clear hb2 hl1 hB1
    go_wp2_with fail
    refine (HF.out w2 hl2).mono ?_
    rintro e w3 (⟨_, rfl, rfl⟩ | ⟨he, _⟩)
    · go_wp2
      go_ret
      exact ⟨rfl, hB2⟩
    · exact absurd he HX.out
end Go.Proofs.Ytanhgjaokgnlhaa
