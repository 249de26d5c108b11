/-
  LAW 13's WALK: MatchFinds: it returns true, and writes nothing that was there. No conditions.
-/
import Derived.Test.YtkjogejakenmeaaLaw13
namespace Go.Proofs.Ytkjogejakenmeaa
open Go.RowKit
set_option maxRecDepth 1000000
set_option linter.unusedVariables false

theorem fdGo_lit {l : List F} {lev : Nat} : ∀ (f : Nat) {s : Fs} {t : Nat × Nat} {ts : List Tok}, (∀ t ∈ ts, t.len = 0 → t.dist = 0) → ∀ t2 ∈ fdGo l lev f s t ts, t2.len = 0 → t2.dist = 0 := by
  intro f
  induction f with
  | zero => intro s t ts h; exact h
  | succ f ih =>
    intro s t ts h
    unfold fdGo
    split
    · split
      · refine ih fun u hu => ?_
        rcases List.mem_append.1 hu with h2 | h2
        · exact h u h2
        · rw [List.mem_singleton.1 h2]; exact fun _ => rfl
      · rename_i hn
        refine ih fun u hu => ?_
        rcases List.mem_append.1 hu with h2 | h2
        · exact h u h2
        · rw [List.mem_singleton.1 h2]
          intro h3
          exact absurd (.inl (by have h4 : (t.1 : Int) = 0 := h3; omega)) hn
    · exact h
theorem i64_ok {a : Int} (h : -9223372036854775808 ≤ a ∧ a ≤ 9223372036854775807) : (Lit.int .i64 a).wf = true := by
  simp [Lit.wf, IntKind.min, IntKind.max, IntKind.bits, IntKind.signed]
  omega
theorem tok_wf {t : Tok} (h : TokOk t) (h0 : t.len = 0 → t.dist = 0) : TokWf t := by
  rcases h with h | ⟨h1, h2, h3, h4⟩
  · exact ⟨by rw [h]; decide, by rw [h0 h]; decide⟩
  · exact ⟨i64_ok (by omega), i64_ok (by omega)⟩
theorem fdF_wf (l : List F) (lev : Nat) : ∀ i, i < (fdF l lev).length → TokWf (tg (fdF l lev) i) := by
  intro i hi
  have hm : tg (fdF l lev) i ∈ fdF l lev := by simp [tg, hi]
  exact tok_wf ((exF_len (fdF_ok l lev).1).2 _ hm) (fdGo_lit _ (fun _ h => absurd h (List.not_mem_nil)) _ hm)
/-- the tokens that are found, as a row -/
theorem fd_row {w : World} {base n c : Nat} {e : TypeId} {A : Option Addr} {l : List F} {lev : Nat} (h : w.ownsRow base e 3 (.slice A n c) n (tC (fdF l lev))) (hn : n = (fdF l lev).length) (hl : l.length ≤ 100000) : TRow w A n (fdF l lev) ∧ n ≤ l.length :=
  have h2 := (fdF_ok l lev).2
  ⟨TRow.ofOwn h hn.symm (by unfold maxLen; omega) (fun i hi => fdF_wf l lev i (by omega)), by omega⟩
set_option maxHeartbeats 2000000 in
theorem walk_MatchFinds (w : World) (A : Option Addr) (n ca : Nat) (l : List F) (hl : RowIn w A n ca l) (v : Int) (hv : (Lit.int .i64 v).wf = true) :
    Calls Try.prog 4 #[.slice A n ca, .int .i64 v] w fun e w' => e = .returned (.bool true) ∧ Below w.heap.size w w' := by
  have hv2 := wf_i64 hv
  have hnm := hl.row.max
  have HAL := Lib.hid (alive13_c w)
  by_cases h1 : (1500 : Int) < (n : Int)
  · go_enter Try.func4, Try.ntmps4
    go_wp2_with (go_at_call 8; refine HAL.out.mono ?_; rintro e w1 ⟨rfl, hb1⟩)
    go_ret
    exact ⟨rfl, hb1⟩
  have hn : n ≤ 1500 := by omega
  have HL := Lib.hid hl
  have HLEN := Lib.hid hl.row.len
  obtain ⟨lev, hlev⟩ : ∃ lev : Nat, min (max v 0) 9 = (lev : Int) := ⟨(min (max v 0) 9).toNat, by omega⟩
  have HLEV := Lib.hid hlev
  have HOK := Lib.hid (fdF_ok l lev)
  have HZ : Hid (¬ 0 < v → (fdF l lev).length = n) := fun h => by
    obtain rfl : lev = 0 := by have := HLEV.out; omega
    rw [fdF_zero, HLEN.out]
  clear hl hlev hv
  go_enter Try.func4, Try.ntmps4
  go_wp2_with fail
  refine HAL.out.mono ?_
  rintro e w1 ⟨rfl, hb1⟩
  have HB1 := Lib.hid hb1
  clear hb1
  go_wp2_with fail
  refine (Find_c A n ca l w1 (HL.out.below HB1.out) (by omega) v lev HLEV.out).mono ?_
  rintro e w2 ⟨A2, c2, N, rfl, hN, hown, hb2⟩
  obtain ⟨ht, hNn⟩ := fd_row hown hN (by have := HLEN.out; omega)
  rw [HLEN.out] at hNn
  have HN := Lib.hid hN
  have HT := Lib.hid ht
  have HB2 := Lib.hid (HB1.out.trans (hb2.mono HB1.out.size))
  clear hN ht hown hb2
  go_wp2_with fail
  refine (RExp_c A2 N c2 (fdF l lev) w2 HT.out (by omega) (n : Int) n (by omega) (by omega)).mono ?_
  rintro e w3 (⟨z, g1, _⟩ | ⟨o, A3, n3, c3, g1, g2, rfl, g3, g4⟩)
  · have := HOK.out.1
    rw [HLEN.out, g1] at this; cases this
  have g5 : o = l := by
    have := HOK.out.1
    rw [HLEN.out, g1] at this
    injection this
  subst g5
  rw [HLEN.out] at g2
  subst g2
  have HO := Lib.hid (Row.of_own g3)
  have HB3 := Lib.hid (HB2.out.trans (g4.mono HB2.out.size))
  clear g1 g3 g4
  go_wp2_with fail
  refine (Same_c A3 A n3 c3 ca o o w3 HO.out (HL.out.below HB3.out).row rfl).mono ?_
  rintro e w4 ⟨rfl, q, rfl⟩
  have HB4 := Lib.hid (below_drewN HB3.out q)
  generalize w3.drewN q = w4 at *
  have t1 : ¬ (n3 : Int) < (N : Int) := by omega
  by_cases t2 : (0 : Int) < v
  · go_wp2
    go_ret
    exact ⟨rfl, HB4.out⟩
  · have t3 : ((N : Int) == (n3 : Int)) = true := by
      rw [beq_iff_eq]
      have := HZ.out (by omega)
      have := HN.out
      omega
    go_wp2
    go_ret
    exact ⟨rfl, HB4.out⟩
end Go.Proofs.Ytkjogejakenmeaa
