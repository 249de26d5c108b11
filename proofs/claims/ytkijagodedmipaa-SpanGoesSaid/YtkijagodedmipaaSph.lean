/-
  SPAN: Next of a writer, and Data: data are laid into as many volumes as they take. Conditions: a writer of right volumes.
-/
import Derived.Test.YtkijagodedmipaaSpg
namespace Go.Proofs.Ytkijagodedmipaa
open Go.RowKit
set_option maxRecDepth 100000
set_option linter.unusedVariables false

/-- where a record of so many bytes would stand -/
def nxt (S : Nat) (v : Vs) (x : Int) : Nat × Nat := if min (max x 1) S ≤ (S : Int) - (v.q.length : Nat) then (v.P.length, v.q.length) else (v.P.length + 1, 0)
theorem nxt_one {S : Nat} {v : Vs} (h : 1 ≤ S) : nxt S v 1 = vat S v 1 := by
  unfold nxt vat
  by_cases e : v.q.length + 1 ≤ S
  · rw [if_pos (by omega), if_pos e]
  · rw [if_neg (by omega), if_neg e]
theorem NextW_c {w : World} {base p S : Nat} {v : Vs} {Fp : Nat → Prop} (h : Spw w base p S v Fp) (hv : VOk S v) (hS : S ≤ 16777216) (hm : v.P.length ≤ 1000000) (x : Int) (hx : (Lit.int .i64 x).wf = true) :
    Calls Try.prog 17 #[.pointer (some ⟨p, 0, none⟩), .int .i64 x] w fun e w' => e = .returned (plV (((nxt S v x).1 : Nat) : Int) (((nxt S v x).2 : Nat) : Int)) ∧ Below w.heap.size w w' := by
  obtain ⟨g, cT, RA, RC, hT⟩ := h
  have hx0 : w.cell? ⟨g, v.P.length, none⟩ = some (.slice (RA v.P.length) v.q.length (RC v.P.length)) := by
    have := hT.cell (r := v.P.length) (by omega)
    rw [vrow_last] at this
    exact this
  have h1 := hv.q1
  have h2 := hv.qS
  refine (Next_c hT.blk hx0 hT.glt hS (by omega) (by omega) h2 x hx).mono ?_
  rintro e w' ⟨d, o, rfl, hs, hb⟩
  have e : nxt S v x = (d, o) := by
    rcases hs with ⟨e1, e2, e3⟩ | ⟨e1, e2, e3⟩
    · rw [e2, e3]; exact if_pos e1
    · rw [e2, e3]; exact if_neg e1
  rw [e]
  exact ⟨rfl, hb⟩
/-- what Data answers, and does -/
def DtR (w : World) (base p S : Nat) (v : Vs) (Fp : Nat → Prop) (b : List F) (e : Ending) (w' : World) : Prop :=
  e = .returned (plV (((vat S v 1).1 : Nat) : Int) (((vat S v 1).2 : Nat) : Int)) ∧ KeepF Fp w w' ∧ Spw w' base p S (vdata S v b) (Fgrow Fp w.heap.size w'.heap.size)
theorem DtR.of {w : World} {base p S : Nat} {v v' : Vs} {Fp : Nat → Prop} {b : List F} {e : Ending} {w' : World} (d o : Nat) (ha : vat S v 1 = (d, o)) (hp : vdata S v b = v') (he : e = .returned (plV (d : Int) (o : Int))) (hk : KeepF Fp w w') (hs : Spw w' base p S v' (Fgrow Fp w.heap.size w'.heap.size)) : DtR w base p S v Fp b e w' := by
  unfold DtR
  rw [ha, hp]
  exact ⟨he, hk, hs⟩
def lenOfS : Value → Nat | .slice _ n _ => n | _ => 0
/-- what is still to be written -/
structure LeftB (w : World) (Fp : Nat → Prop) (N : Nat) (B : Option Addr) (n c : Nat) (l : List F) : Prop where
  row : RowIn w B n c l
  far : 0 < n → ∀ x o, B = some ⟨x, o, none⟩ → ¬ Fp x ∧ x < N
theorem RowIn.keepF {w w' : World} {Fq : Nat → Prop} {A : Option Addr} {n c : Nat} {l : List F} (h : RowIn w A n c l) (hk : KeepF Fq w w') (hA : 0 < n → ∀ x o, A = some ⟨x, o, none⟩ → ¬ Fq x) : RowIn w' A n c l := by
  rcases Nat.eq_zero_or_pos n with h0 | h0
  · subst h0
    obtain rfl : l = [] := List.eq_nil_of_length_eq_zero h.row.len
    exact ⟨Row.nil _ _, h.le, h.max⟩
  · exact ⟨h.row.blk hk.size fun b o e hl => hk.block b hl (hA h0 b o e), h.le, h.max⟩
set_option maxHeartbeats 4000000 in
theorem Data_c {w : World} {base p S n c : Nat} {v : Vs} {Fp : Nat → Prop} {B : Option Addr} {b : List F} (h : Spw w base p S v Fp) (hv : VOk S v) (hS : S ≤ 16777216) (hm : v.flat.length + n ≤ 1000000) (hb : RowIn w B n c b) (hBn : 0 < n → ∀ x o, B = some ⟨x, o, none⟩ → ¬ Fp x) :
    Calls Try.prog 13 #[.pointer (some ⟨p, 0, none⟩), .slice B n c] w fun e w' => DtR w base p S v Fp b e w' := by
  have hS1 : 1 ≤ S := Nat.le_trans hv.q1 hv.qS
  have hcnt := hv.count
  have hbp := h.plt
  have hsub := h.sub
  have hlen := hb.row.len
  have hb0 := (Below.refl w.heap.size w).alloc (Nat.le_refl _) (.cells (plC 0 0) 37)
  have HK := Lib.hid (Blk.new w 37 (plC 0 0))
  have H0 := Lib.hid (h.below hb0)
  have HN := Lib.hid (NextW_c H0.out hv hS (by omega) 1 (by decide))
  have HAT := Lib.hid (nxt_one (v := v) hS1)
  have HB0 := Lib.hid hb0
  have HSUB := Lib.hid hsub
  have HV := Lib.hid hv
  have HLB := Lib.hid (show LeftB (w.alloc (.cells (plC 0 0) 37)) Fp w.heap.size B n c b from ⟨hb.below hb0, fun h0 x o e => ⟨hBn h0 x o e, by obtain ⟨b1, o1, e1, hl, _⟩ := hb.row.at_ h0; rw [e] at e1; injection e1 with e1; injection e1 with e1 _ _; omega⟩⟩)
  have HCN := Lib.hid (And.intro hcnt (And.intro hlen hm))
  clear hb0 hsub hv hb hBn h hcnt hlen hm
  unfold plC at *
  go_enter Try.func13, Try.ntmps13
  go_wp2_with fail
  refine HN.out.mono ?_
  rintro e w1 ⟨rfl, hb1⟩
  obtain ⟨d, o, hdo⟩ : ∃ d o, nxt S v 1 = (d, o) := ⟨_, _, rfl⟩
  have HDO : Hid (vat S v 1 = (d, o)) := HAT.out.symm.trans hdo
  rw [hdo]
  clear hdo HAT HN
  unfold plV plC
  go_wp2_with fail
  have hba := (Below.refl w1.heap.size w1).alloc (Nat.le_refl _) (.cells #[.int .i64 (d : Int), .int .i64 (o : Int)] 37)
  have hB1 := HB0.out.trans (hb1.mono HB0.out.size)
  have hB2 := hB1.trans (hba.mono hB1.size)
  have hsz : w.heap.size < w1.heap.size := by have := hb1.size; simp at this; omega
  have HS2 := Lib.hid ((H0.out.below hb1).below hba)
  have HK5 := Lib.hid (Blk.new w1 37 #[.int .i64 (d : Int), .int .i64 (o : Int)])
  have HK4 := Lib.hid (((HK.out.below HK.out.lt hb1)).below ((HK.out.below HK.out.lt hb1)).lt hba)
  have HL2 := Lib.hid (show LeftB (w1.alloc (.cells #[.int .i64 (d : Int), .int .i64 (o : Int)] 37)) Fp w.heap.size B n c b from ⟨(HLB.out.row.below hb1).below hba, HLB.out.far⟩)
  have HKF := Lib.hid (KeepF.ofBelow (Fp := Fp) hB2)
  have hq5 : w1.heap.size < (w1.alloc (.cells #[.int .i64 (d : Int), .int .i64 (o : Int)] 37)).heap.size := by simp
  clear hba hB1 hB2 hb1 HB0 H0 HK HLB
  generalize w1.alloc (.cells #[.int .i64 (d : Int), .int .i64 (o : Int)] 37) = W2 at *
  generalize w1.heap.size = q5 at *
  go_loopw [1] (fun iv wr => ∃ (B' : Option Addr) (n' c' : Nat) (l' : List F) (v' : Vs), iv = .slice B' n' c' ∧ Hid (LeftB wr Fp w.heap.size B' n' c' l') ∧ Hid (KeepF Fp w wr) ∧ Hid (∃ a, q5 < a ∧ a ≤ wr.heap.size ∧ Spw wr base p S v' (Fgrow Fp a wr.heap.size)) ∧ Hid (VOk S v') ∧ Hid (vdata S v' l' = vdata S v b) ∧ Hid (v'.flat ++ l' = v.flat ++ b) ∧ Hid (Blk wr q5 37 #[.int .i64 (d : Int), .int .i64 (o : Int)]) ∧ Hid (Blk wr w.heap.size 37 #[.int .i64 0, .int .i64 0])) (fun iv _ => lenOfS iv)
  case atStart =>
    exact ⟨B, n, c, b, v, rfl, HL2, HKF, ⟨W2.heap.size, hq5, Nat.le_refl _, HS2.out.wider (fun k hk => .inl hk) (fun k hk => by
      rcases hk with hk | hk
      · exact HS2.out.sub k hk
      · omega)⟩, HV, rfl, rfl, HK5, HK4⟩
  case round =>
    clear HL2 HKF HS2 HK5 HK4
    obtain ⟨B', n', c', l', v', rfl, hLB, hKF, hSp, hOk, hDat, hFl, hK5, hK4⟩ := hrel
    have hlen' := hLB.out.row.row.len
    have hnm := hLB.out.row.row.max
    by_cases h0 : 0 < n'
    · have i1 : (0 : Int) < (n' : Int) := by omega
      have i2 : (0 : Int) < (S : Int) := by omega
      obtain ⟨a5, ha5, ha5l, hS5⟩ := hSp.out
      have hz := hS5.size
      have hfl : v'.flat.length + n' ≤ 1000000 := by
        have h1 := congrArg List.length hFl.out
        have h2 := HCN.out
        rw [List.length_append, List.length_append] at h1
        omega
      have hcnt := hOk.out.count
      have hqS := hOk.out.qS
      have hP : v'.P.length ≤ 1000000 := by omega
      have HN := Lib.hid (NextW_c (hS5.drewN 1) hOk.out hS hP 1 (by decide))
      obtain ⟨d2, o2, hdo⟩ : ∃ d o, nxt S v' 1 = (d, o) := ⟨_, _, rfl⟩
      have hat := (nxt_one (v := v') hS1).symm.trans hdo
      have ho2 : o2 = if v'.q.length + 1 ≤ S then v'.q.length else 0 := by
        unfold vat at hat
        by_cases e : v'.q.length + 1 ≤ S
        · rw [if_pos e] at hat ⊢; injection hat with _ hat; exact hat.symm
        · rw [if_neg e] at hat ⊢; injection hat with _ hat; exact hat.symm
      have hoS : o2 + 1 ≤ S := by rw [ho2]; split <;> omega
      obtain ⟨r, hr⟩ : ∃ r : Nat, r = S - o2 := ⟨_, rfl⟩
      have s1 : IntKind.i64.wrap ((S : Int) - (o2 : Int)) = (r : Int) := (IntWalk.i64_in _ (by omega)).trans (by omega)
      rw [hdo] at HN
      have HO2 := Lib.hid ho2
      have HRR := Lib.hid hr
      have hr1 : 1 ≤ r := by omega
      have HS5 := Lib.hid hS5
      have HL' := Lib.hid hlen'
      have hfld : ∀ W, Sem.run Try.prog (Instr.field 37 (.agg #[.int .i64 (d2 : Int), .int .i64 (o2 : Int)]) 1) W = .ok (.int .i64 (o2 : Int)) W := fun _ => rfl
      obtain ⟨m, hm⟩ : ∃ m : Nat, m = min n' r := ⟨_, rfl⟩
      have hmn : (if r < n' then (r : Int) else (n' : Int)) = (m : Int) := by split <;> omega
      have HM := Lib.hid hm
      have hm1 : 1 ≤ m := by omega
      have hmn' : m ≤ n' := by omega
      have hmS : m ≤ S := by omega
      have hlc := hLB.out.row.le
      have i3 : (0 : Int) ≤ (m : Int) := by omega
      have i4 : (m : Int) ≤ (c' : Int) := by omega
      clear hdo hat ho2 hr hfl hcnt hlen' hS5 hm
      unfold plV plC at HN
      go_wp2_with fail
      refine wp_region_held_drew (S := fun W' => W'.cell? ⟨p, 0, none⟩ = some (.int .i64 S)) (by kernel_rfl) ?_ (fun hHeld => ?_)
      · go_keep
      refine wpAnyH_take (i := 0) (oi := { dst := some 19, op := _, type := _, pos := _, after := _, guard := _ }) (v := ?_) rfl (by kernel_rfl) (by kernel_rfl) (by kernel_rfl) (fun _ _ _ h => h) (Or.inl ⟨by rfl, ?_⟩) (by assumption) ?_
      rotate_left
      · intro w' hSw
        try dsimp only at hSw
        go_simp
        try with_reducible rfl
      try simp only [Act.put, List.setIfInBounds_toArray, List.set_cons_zero, List.set_cons_succ]
      refine wpAnyH_take (i := 1) (oi := { dst := some 20, op := _, type := _, pos := _, after := _, guard := _ }) (v := ?_) rfl (by kernel_rfl) (by kernel_rfl) (by kernel_rfl) (fun _ _ _ h => h) (Or.inl ⟨by rfl, ?_⟩) (by assumption) ?_
      rotate_left
      · intro w' hSw
        try dsimp only at hSw
        go_simp
        try with_reducible rfl
      try simp only [Act.put, List.setIfInBounds_toArray, List.set_cons_zero, List.set_cons_succ]
      refine wpAnyH_take (i := 2) (oi := { dst := some 21, op := _, type := _, pos := _, after := _, guard := _ }) (v := ?_) rfl (by kernel_rfl) (by kernel_rfl) (by kernel_rfl) (fun _ _ _ h => h) (Or.inl ⟨by rfl, ?_⟩) (by assumption) ?_
      rotate_left
      · intro w' hSw
        try dsimp only at hSw
        go_simp
        try with_reducible rfl
      try simp only [Act.put, List.setIfInBounds_toArray, List.set_cons_zero, List.set_cons_succ]
      refine wpAnyH_take (i := 3) (oi := { dst := some 22, op := _, type := _, pos := _, after := _, guard := _ }) (v := ?_) rfl (by kernel_rfl) (by kernel_rfl) (by kernel_rfl) (fun _ _ _ h => h) (Or.inl ⟨by rfl, ?_⟩) (by assumption) ?_
      rotate_left
      · intro w' hSw
        try dsimp only at hSw
        go_simp
        try with_reducible rfl
      try simp only [Act.put, List.setIfInBounds_toArray, List.set_cons_zero, List.set_cons_succ]
      refine wpAnyH_take (i := 4) (oi := { dst := some 23, op := _, type := _, pos := _, after := _, guard := _ }) (v := ?_) rfl (by kernel_rfl) (by kernel_rfl) (by kernel_rfl) (fun _ _ _ h => h) (Or.inl ⟨by rfl, ?_⟩) (by assumption) ?_
      rotate_left
      · intro w' hSw
        try dsimp only at hSw
        go_simp
        try with_reducible rfl
      try simp only [Act.put, List.setIfInBounds_toArray, List.set_cons_zero, List.set_cons_succ]
      refine wpAnyH_take (i := 5) (oi := { dst := some 24, op := _, type := _, pos := _, after := _, guard := _ }) (v := ?_) rfl (by kernel_rfl) (by kernel_rfl) (by kernel_rfl) (fun _ _ _ h => h) (Or.inl ⟨by rfl, ?_⟩) (by assumption) ?_
      rotate_left
      · intro w' hSw
        try dsimp only at hSw
        go_simp
        try with_reducible rfl
      try simp only [Act.put, List.setIfInBounds_toArray, List.set_cons_zero, List.set_cons_succ]
      refine wpAnyH_take (i := 6) (oi := { dst := some 25, op := _, type := _, pos := _, after := _, guard := _ }) (v := ?_) rfl (by kernel_rfl) (by kernel_rfl) (by kernel_rfl) (fun _ _ _ h => h) (Or.inl ⟨by rfl, ?_⟩) (by assumption) ?_
      rotate_left
      · intro w' hSw
        try dsimp only at hSw
        go_simp
        try with_reducible rfl
      try simp only [Act.put, List.setIfInBounds_toArray, List.set_cons_zero, List.set_cons_succ]
      refine wpAnyH_ready (rs := [7]) (by kernel_rfl) (by simp) ?_
      refine AllReadyH.cons (o := { dst := some 26, op := _, type := _, pos := _, after := _, guard := _ }) rfl (fun K hK => ?_) AllReadyH.nil
      go_simp
      go_at_call 17
      refine HN.out.mono ?_
      rintro e wx ⟨rfl, hbx⟩
      try go_wp2_with fail
      refine hK.out _ _ ?_ (fun hHeld => ?_)
      · exact (hbx.cell (p := ⟨p, 0, none⟩) (by show p < wr.heap.size; have := HS5.out.plt; omega)).trans hz
      clear hK K
      try simp only [Act.put, List.setIfInBounds_toArray, List.set_cons_zero, List.set_cons_succ]
      refine wpAnyH_take (i := 8) (oi := { dst := some 27, op := _, type := _, pos := _, after := _, guard := _ }) (v := ?_) rfl (by kernel_rfl) (by kernel_rfl) (by kernel_rfl) (fun _ _ _ h => h) (Or.inl ⟨by rfl, ?_⟩) (by assumption) ?_
      rotate_left
      · intro w' hSw
        try dsimp only at hSw
        go_simp
        try with_reducible rfl
      try simp only [Act.put, List.setIfInBounds_toArray, List.set_cons_zero, List.set_cons_succ]
      refine wpAnyH_take (i := 9) (oi := { dst := some 28, op := _, type := _, pos := _, after := _, guard := _ }) (v := ?_) rfl (by kernel_rfl) (by kernel_rfl) (by kernel_rfl) (fun _ _ _ h => h) (Or.inl ⟨by rfl, ?_⟩) (by assumption) ?_
      rotate_left
      · intro w' hSw
        try dsimp only at hSw
        go_simp
        try with_reducible rfl
      try simp only [Act.put, List.setIfInBounds_toArray, List.set_cons_zero, List.set_cons_succ]
      refine wpAnyH_take (i := 10) (oi := { dst := some 29, op := _, type := _, pos := _, after := _, guard := _ }) (v := ?_) rfl (by kernel_rfl) (by kernel_rfl) (by kernel_rfl) (fun _ _ _ h => h) (Or.inl ⟨by rfl, ?_⟩) (by assumption) ?_
      rotate_left
      · intro w' hSw
        try dsimp only at hSw
        go_simp
        try with_reducible rfl
      try simp only [Act.put, List.setIfInBounds_toArray, List.set_cons_zero, List.set_cons_succ]
      refine wpAnyH_take (i := 11) (oi := { dst := some 6, op := _, type := _, pos := _, after := _, guard := _ }) (v := ?_) rfl (by kernel_rfl) (by kernel_rfl) (by kernel_rfl) (fun _ _ _ h => h) (Or.inl ⟨by rfl, ?_⟩) (by assumption) ?_
      rotate_left
      · intro w' hSw
        try dsimp only at hSw
        go_simp
        try with_reducible rfl
      try simp only [Act.put, List.setIfInBounds_toArray, List.set_cons_zero, List.set_cons_succ]
      refine wpAnyH_done (by kernel_rfl) ?_ _
      clear hHeld
      have hbw : Below wr.heap.size wr wx := (below_drewN (Below.refl wr.heap.size wr) 1).trans hbx
      have hSx := HS5.out.below hbw
      have hRx := (hLB.out.row.below hbw).row.take hmn'
      have hfar := hLB.out.far h0
      have HP := Lib.hid (put_c (c := c') hSx hOk.out hS hP hRx hm1 hmS (fun x o e hF => by
        rcases hF with hF | hF
        · exact (hfar x o e).1 hF
        · have := (hfar x o e).2; omega))
      have hbw2 := hbw
      have HBW := Lib.hid hbw
      clear hSx hRx hbw hbx hmn s1 hfld
      go_wp2_with fail
      refine HP.out.mono ?_
      rintro e w3 ⟨rfl, hk3, hs3⟩
      have hkk : KeepF (Fgrow Fp a5 wr.heap.size) wr w3 := (KeepF.ofBelow hbw2).trans hk3 (fun _ _ h => h)
      have hnF : ∀ k, k < a5 → ¬ Fp k → ¬ Fgrow Fp a5 wr.heap.size k := fun k h1 h2 h3 => by
        rcases h3 with h3 | h3
        · exact h2 h3
        · omega
      have hfw : ∀ k, w.heap.size ≤ k → ¬ Fp k := fun k hk h => by have := (HSUB.out k h).2; omega
      have hs33 := hk3.size
      have hsw := hbw2.size
      have HLB3 : Hid (RowIn w3 B' n' c' l') := hLB.out.row.keepF hkk (fun _ x o e => hnF x (by have := (hfar x o e).2; omega) (hfar x o e).1)
      have HKF3 : Hid (KeepF Fp w w3) := hKF.out.trans hkk (fun i hi h => by
        rcases h with h | h
        · exact h
        · omega)
      have HS3 : Hid (∃ a, q5 < a ∧ a ≤ w3.heap.size ∧ Spw w3 base p S (vput S v' (l'.take m)) (Fgrow Fp a w3.heap.size)) := ⟨a5, ha5, by omega, hs3.wider (fun k hk => by
        rcases hk with (hk | hk) | hk
        · exact .inl hk
        · exact .inr ⟨hk.1, by omega⟩
        · exact .inr ⟨by omega, hk.2⟩) (fun k hk => by
        rcases hk with hk | hk
        · have := HSUB.out k hk
          have := hKF.out.size
          omega
        · have := HS5.out.plt
          omega)⟩
      have HK53 := Lib.hid (hkk.blk hK5.out (hnF q5 ha5 (hfw q5 (by omega))))
      have HK43 := Lib.hid (hkk.blk hK4.out (hnF w.heap.size (by omega) (hfw _ (Nat.le_refl _))))
      have hlt : (l'.take m).length = m := by rw [List.length_take, HL'.out]; omega
      have HOK3 := Lib.hid (hOk.out.put (b := l'.take m) (by omega) (by omega))
      have HDA3 : Hid (vdata S (vput S v' (l'.take m)) (l'.drop m) = vdata S v b) := by
        refine Eq.trans ?_ hDat.out
        refine (vdata_part S hqS hS1 (n := m) ?_ (by rw [HL'.out]; omega)).symm
        rw [HL'.out, ← HO2.out, ← HRR.out]
        exact HM.out
      have HFL3 : Hid ((vput S v' (l'.take m)).flat ++ l'.drop m = v.flat ++ b) := by
        unfold Hid
        rw [flat_put, List.append_assoc, List.take_append_drop]
        exact hFl.out
      have hsub3 : n' - m + m = n' := by omega
      have HFAR := Lib.hid hfar
      clear hk3 hs3 hkk hnF hfw hs33 hsw hlt hfar hbw2 hLB hKF hSp hOk hDat hFl hK5 hK4 HL' hqS hP
      by_cases hcm : c' = m
      · have hz' : n' - m = 0 := by omega
        have hn' : n' = m := by omega
        have HLL : Hid (LeftB w3 Fp w.heap.size B' 0 0 (l'.drop m)) := by
          have h9 := HLB3.out.slice (a := m) (M := n') (by omega) (Nat.le_refl _)
          have h8 := h9.1 hcm
          rw [hz', List.take_zero] at h8
          have hd : l'.drop m = [] := List.drop_eq_nil_of_le (by rw [HLB3.out.row.len]; omega)
          rw [hd]
          exact ⟨h8, fun h => absurd h (by omega)⟩
        clear HLB3 HFAR HP HBW
        generalize l'.drop m = l2 at *
        generalize vput S v' (l'.take m) = v2 at *
        subst hcm
        unfold plV plC
        go_wp2
        go_roundw
        case rel => exact ⟨_, _, _, l2, v2, rfl, HLL, HKF3, HS3, HOK3, HDA3, HFL3, HK53, HK43⟩
        case measure => simp [lenOfS]; omega
      · have h9 := (HLB3.out.slice (a := m) (M := n') (by omega) (Nat.le_refl _)).2 hcm
        rw [List.take_of_length_le (by rw [List.length_drop, HLB3.out.row.len]; omega)] at h9
        have HLL : Hid (LeftB w3 Fp w.heap.size (B'.map fun x => x.add m) (n' - m) (c' - m) (l'.drop m)) := ⟨h9, fun _ x o e => by
          cases hB : B' with
          | none => rw [hB] at e; cases e
          | some ad =>
            rw [hB] at e
            injection e with e
            obtain ⟨b1, o1, e1, _, _⟩ := HLB3.out.row.at_ h0
            rw [hB] at e1
            injection e1 with e1
            subst e1
            have e2 : b1 = x := by
              have h7 := congrArg Addr.block e
              simpa [Addr.add, show m ≠ 0 by omega] using h7
            subst e2
            exact HFAR.out b1 o1 (by rw [hB])⟩
        clear HLB3 HFAR HP HBW h9
        generalize l'.drop m = l2 at *
        generalize vput S v' (l'.take m) = v2 at *
        unfold plV plC
        go_wp2
        go_roundw
        case rel => exact ⟨_, _, _, l2, v2, rfl, HLL, HKF3, HS3, HOK3, HDA3, HFL3, HK53, HK43⟩
        case measure => simp [lenOfS]; omega
    · obtain rfl : n' = 0 := by omega
      obtain rfl : l' = [] := List.eq_nil_of_length_eq_zero hlen'
      have hDD : Hid (vdata S v b = v') := hDat.out.symm
      obtain ⟨a5, ha5, ha5l, hS5⟩ := hSp.out
      have tl := ld_pl hK5.out rfl
      have ts := st_pl hK4.out rfl (plC d o) rfl (by simp [plC, Value.oneCell'])
      have t3 := ld_pl (hK4.out.setRow (plC d o)) rfl
      have HS9 := Lib.hid (hS5.setRow (q := w.heap.size) (fun e => by
        rcases e with e | e
        · have := (HSUB.out _ e).2; omega
        · omega) (plC d o))
      have HKF9 := Lib.hid (hKF.out.setRow (Nat.le_refl _) (plC d o))
      have HSZ := Lib.hid (And.intro ha5 (And.intro ha5l hKF.out.size))
      unfold plC at *
      clear hlen' hS5 ha5 ha5l hLB hSp
      go_wp2_with (first
        | (with_reducible refine wpList_load_var q5 _ rfl tl ?_)
        | (with_reducible refine wpList_store_var _ _ _ (by with_unfolding_all rfl) (by with_unfolding_all rfl) ts ?_))
      refine bodyPost_ret (v := .agg #[.int .i64 d, .int .i64 o]) ?_ rfl (DtR.of d o HDO.out hDD.out rfl HKF9.out (HS9.out.wider (fun k hk => ?_) fun k hk => ?_))
      · rw [results_cell_oneV rfl]
        simp [asAddr, Result.andThen, Act.put, t3]
      · rw [World.size_setRow]
        exact Fgrow.mono (by have := HSZ.out; omega) (Nat.le_refl _) k hk
      · rw [World.size_setRow] at hk ⊢
        have := HSZ.out
        rcases hk with hk | hk
        · have := HSUB.out k hk; omega
        · omega
end Go.Proofs.Ytkijagodedmipaa
