/-
  LAW 22: SpanNexts: where a record would stand it stands. No conditions.
-/
import Derived.Test.YtkijagodedmipaaLaw22
namespace Go.Proofs.Ytkijagodedmipaa
open Go.RowKit
set_option maxRecDepth 100000
set_option linter.unusedVariables false

theorem vdata_flat_le {S : Nat} {v : Vs} (b : List F) {N k : Nat} (h : v.flat.length ≤ N + 60 * k) (hb : b.length ≤ 60) : (vdata S v b).flat.length ≤ N + 60 * (k + 1) := by
  rw [flat_data, List.length_append]; omega
theorem rec_flat_le {S : Nat} {v : Vs} (b : List F) {N k : Nat} (h : v.flat.length ≤ N + 60 * k) (hb : b.length ≤ 60) : (recF S v b).1.flat.length ≤ N + 60 * (k + 1) := by
  unfold recF
  split
  · show v.flat.length ≤ _; omega
  · show (vput S v b).flat.length ≤ _
    rw [flat_put, List.length_append]; omega
theorem VOk.rec_ {S : Nat} {v : Vs} (h : VOk S v) (b : List F) : VOk S (recF S v b).1 := by
  unfold recF
  split
  · exact h
  · exact h.put (by omega) (by omega)
theorem bel_alloc {a w : World} (h : Below a.heap.size a w) (o : Obj) : Below a.heap.size a (w.alloc o) := h.alloc h.size o
theorem bel_then {a b c : World} (h : Below a.heap.size a b) (k : Below b.heap.size b c) : Below a.heap.size a c := h.trans (k.mono h.size)
theorem stepH_store_var {P : Program} {w : World} {ops : Array Oper} {a : Act} {K : Act → World → Prop} {Q : Exit → Act → World → Prop} {E : Prop} {p x : Operand} {T ty : TypeId} {pos : String} {aft : Array Edge} (g : Nat) (v : Value) (w' : World)
    (hp : a.eval p = .pointer (some ⟨g, 0, none⟩)) (hx : a.eval x = v) (hrun : Sem.run P (storeVar T ⟨g, 0, none⟩ v) w = .ok () w') (hK : K a w') :
    if Region.wanted { dst := none, op := Op.store T p x, type := ty, pos := pos, after := aft, guard := none } (yielded ops a.tmps) = true then Oper.wp P { dst := none, op := Op.store T p x, type := ty, pos := pos, after := aft, guard := none } a w K Q else E := by
  rw [if_pos (by simp [Region.wanted])]
  have hr : (Instr.storeAt T (.pointer (some ⟨g, 0, none⟩)) v).run P w = .ok () w' := by
    simp only [Instr.storeAt, Instr.sureAddr, Sem.run_bind, Sem.run_pure, Result.andThen]
    exact hrun
  unfold Oper.wp
  simp [execOp, hp, hx, hr, Result.andThen]
  exact hK
theorem blk_setRow_ne {w : World} {g q : Nat} {t : TypeId} {C : Array Value} (h : Blk w g t C) (hne : g ≠ q) (D : Array Value) : Blk (w.setRow q D) g t C := by
  unfold Blk at h ⊢
  simp [World.setRow, Array.getElem?_modify, h]
  exact fun e => absurd e.symm hne
theorem cell_setRow_ne {w : World} {p : Addr} {q : Nat} (hne : p.block ≠ q) (D : Array Value) : (w.setRow q D).cell? p = w.cell? p := by
  refine World.cell?_of_block ?_
  simp [World.setRow, Array.getElem?_modify]
  exact fun e => absurd e.symm hne
structure BxP (Z : Prop) : Prop where
  out : Z
theorem cut_in {Z T : Prop} (f : BxP Z → T) (z : Z) : T := f ⟨z⟩
/-- two places, laid in two new boxes -/
structure FinN (N : Nat) (W : World) (x y : Nat) (d1 o1 d2 o2 : Nat) (W' : World) : Prop where
  bel : Below N W W'
  bx : Blk W' x 37 #[.int .i64 (d1 : Int), .int .i64 (o1 : Int)]
  by_ : Blk W' y 37 #[.int .i64 (d2 : Int), .int .i64 (o2 : Int)]
  hx : N ≤ x
  hy : N ≤ y
/-- a longer record stands no earlier; where both fit they stand at one place -/
theorem nxt_mono {S : Nat} {v : Vs} (hS : 1 ≤ S) (hq : v.q.length ≤ S) (n : Nat) : (nxt S v 1).1 ≤ (nxt S v ((n : Int) + 1)).1 ∧ ((nxt S v 1).1 = (nxt S v ((n : Int) + 1)).1 → (nxt S v 1).2 = (nxt S v ((n : Int) + 1)).2) := by
  unfold nxt
  by_cases h1 : min (max ((n : Int) + 1) 1) S ≤ (S : Int) - (v.q.length : Nat)
  · rw [if_pos h1, if_pos (by omega)]
    exact ⟨Nat.le_refl _, fun _ => rfl⟩
  · rw [if_neg h1]
    by_cases h2 : min (max (1 : Int) 1) S ≤ (S : Int) - (v.q.length : Nat)
    · rw [if_pos h2]
      exact ⟨by simp, fun e => by simp at e⟩
    · rw [if_neg h2]
      exact ⟨Nat.le_refl _, fun _ => rfl⟩
theorem nxt_vat {S : Nat} {v : Vs} {n : Nat} (h1 : 1 ≤ n) (hn : n ≤ S) : nxt S v (n : Int) = vat S v n := by
  unfold nxt vat
  by_cases e : v.q.length + n ≤ S
  · rw [if_pos (by omega), if_pos e]
  · rw [if_neg (by omega), if_neg e]
theorem OIn.len {w : World} {A : Option Addr} {n cap : Nat} {K : Nat → Int} {RA : Nat → Option Addr} {RL RC : Nat → Nat} {R : Nat → List F} (h : OIn w A n cap K RA RL RC R) {r : Nat} (hr : r < n) : (R r).length = RL r := (h.row r hr).row.len
set_option maxHeartbeats 8000000 in
theorem nexts_main (w : World) (S p n cap : Nat) (A : Option Addr) (K : Nat → Int) (RA : Nat → Option Addr) (RL RC : Nat → Nat) (R : Nat → List F) (h : OIn w A n cap K RA RL RC R) (hf : fewO n RL) (hS5 : 5 ≤ S) (hS6 : S ≤ 16777216) :
    Calls Try.prog 6 #[.int .i64 S, .slice A n cap] w fun e w' => e = .returned (.bool true) ∧ Below w.heap.size w w' := by
  have H := Lib.hid h
  have HD : Hid (decide (fewO n RL) = true) := decide_eq_true hf
  have HF := Lib.hid hf
  clear h hf
  go_enter Try.func6, Try.ntmps6
  go_wp2_with fail
  refine (alive22_c _).mono ?_
  rintro e W1 ⟨rfl, hb1⟩
  have HB1 := Lib.hid hb1
  clear hb1
  go_wp2_with fail
  refine (New_c S (by simp [Lit.wf, IntKind.min, IntKind.max, IntKind.bits, IntKind.signed]; omega) W1).mono ?_
  rintro e W2 (⟨hno, _, _⟩ | ⟨S', p, hS, _, _, rfl, hb2, hs2⟩)
  case inl => exact absurd (if_neg (by omega)) hno
  obtain rfl : S' = S := by omega
  have HB2 := Lib.hid (HB1.out.trans (hb2.mono HB1.out.size))
  have HS2 := Lib.hid hs2
  have HBS : Hid (w.heap.size ≤ W1.heap.size) := HB1.out.size
  clear hb2 hs2 hS HB1
  generalize Fgrow (fun _ => False) W1.heap.size W2.heap.size = F2 at *
  generalize W1.heap.size = base at *
  go_wp2_with fail
  refine (few22_c (H.out.below HB2.out)).mono ?_
  rintro e W3 ⟨rfl, hb3⟩
  rw [HD.out]
  have HB3 := Lib.hid (HB2.out.trans (hb3.mono HB2.out.size))
  have HS3 := Lib.hid (HS2.out.below hb3)
  clear hb3 HS2 HB2
  have hn := H.out.nmax
  go_wp2
  go_loopw [34] (fun iv wr => ∃ (k : Nat) (v : Vs) (Fp : Nat → Prop), k ≤ n ∧ iv = .int .i64 k ∧ Hid (Spw wr base p S' v Fp) ∧ Hid (VOk S' v) ∧ Hid (v.flat.length ≤ 4 + 60 * k) ∧ Hid (Below w.heap.size w wr)) (fun iv _ => n - (intOf iv).toNat)
  case atStart => exact ⟨0, v0, F2, by omega, rfl, HS3, v0_ok hS5, (by show Hid (_ ≤ _); unfold Hid; decide), HB3⟩
  case round =>
    clear HS3 HB3
    obtain ⟨k, v, Fp, hk, rfl, hSp, hOk, hFl, hb⟩ := hrel
    by_cases hlt : k < n
    · have hkn : (k : Int) < n := by omega
      have hO := H.out.below hb.out
      obtain ⟨b1, o1, rfl, _, q0, q1⟩ := hO.at_ hlt
      have hrow := hO.row k hlt
      have hlk := HF.out.2 k hlt
      have hn20 := HF.out.1
      have hcnt := hOk.out.count
      have hfl := hFl.out
      have hP : v.P.length < 1300 := by omega
      have hba := (Below.refl wr.heap.size wr).alloc (Nat.le_refl _) (.cells #[.int .i64 (K k), .slice (RA k) (RL k) (RC k)] 35)
      have HS4 := Lib.hid (hSp.out.below hba)
      have HB4 := Lib.hid (hb.out.trans (hba.mono hb.out.size))
      have HR4 := Lib.hid (hrow.below hba)
      have HK8 := Lib.hid (Blk.new wr 35 #[.int .i64 (K k), .slice (RA k) (RL k) (RC k)])
      have HN8 : Hid (¬ Fp wr.heap.size) := fun h => by have := (hSp.out.sub _ h).2; omega
      have HOK := Lib.hid hOk.out
      have HPP := Lib.hid hP
      clear hba hO hrow hOk hSp hcnt hP hb
      go_wp2_with fail
      refine (RowW_c HS4.out HOK.out hS6 (by have := HPP.out; omega)).mono ?_
      rintro e W5 ⟨gR, cR, RA', RC', rfl, hA, hb5⟩
      have HA5 := Lib.hid hA
      have HLO : Hid (∀ j, Fp j → j < (wr.alloc (.cells #[.int .i64 (K k), .slice (RA k) (RL k) (RC k)] 35)).heap.size) := fun j hj => (HS4.out.sub j hj).2
      have HS5 := Lib.hid (HS4.out.below hb5)
      have HB5 := Lib.hid (HB4.out.trans (hb5.mono HB4.out.size))
      have HR5 := Lib.hid (HR4.out.below hb5)
      have HK85 := Lib.hid (HK8.out.below HK8.out.lt hb5)
      have hq8 := HK8.out.lt
      have hlo : wr.heap.size + 1 ≤ (wr.alloc (.cells #[.int .i64 (K k), .slice (RA k) (RL k) (RC k)] 35)).heap.size := by simp
      clear hA hb5 HS4 HB4 HR4 HK8 q0 q1
      generalize wr.heap.size = q8 at *
      obtain ⟨l, hl⟩ : ∃ l, l = v.P.length := ⟨_, rfl⟩
      rw [← hl] at HA5 HPP ⊢
      have HLL := Lib.hid hl
      clear hl
      have hl9 := HPP.out
      go_wp2_with fail
      obtain ⟨d1, o1', e1⟩ : ∃ d o, nxt S' v 1 = (d, o) := ⟨_, _, rfl⟩
      obtain ⟨d2, o2', e2⟩ : ∃ d o, nxt S' v ((RL k : Int) + 1) = (d, o) := ⟨_, _, rfl⟩
      have hC1 := fun (W : World) (hb : Below W5.heap.size W5 W) => NextW_c (HS5.out.below hb) HOK.out hS6 (by rw [← HLL.out]; omega) 1 (by decide)
      have hC2 := fun (W : World) (hb : Below W5.heap.size W5 W) => NextW_c (HS5.out.below hb) HOK.out hS6 (by rw [← HLL.out]; omega) ((RL k : Int) + 1) (by simp [Lit.wf, IntKind.min, IntKind.max, IntKind.bits, IntKind.signed]; omega)
      rw [e1] at hC1
      rw [e2] at hC2
      have HE1 := Lib.hid e1
      have HE2 := Lib.hid e2
      have HC1 := Lib.hid hC1
      have HC2 := Lib.hid hC2
      have z8 : W5.cell? ⟨q8, 1, none⟩ = some (.slice (RA k) (RL k) (RC k)) := HK85.out.cell 1
      have q8l : q8 < W5.heap.size := HK85.out.lt
      have hw1 : IntKind.i64.wrap ((RL k : Int) + 1) = (RL k : Int) + 1 := IntWalk.i64_in _ (by omega)
      clear e1 e2 hC1 hC2
      unfold plV plC at HC1 HC2
      obtain ⟨N5, hN5⟩ : ∃ N5, N5 = W5.heap.size := ⟨_, rfl⟩
      rw [← hN5] at HC1 HC2 q8l
      have hNle : N5 ≤ W5.heap.size := Nat.le_of_eq hN5
      have hV00 : Below N5 W5 W5.drew ∧ W5.drew.cell? ⟨q8, 1, none⟩ = some (.slice (RA k) (RL k) (RC k)) := ⟨(Below.refl N5 W5).drew, z8⟩
      obtain ⟨V0, hVW⟩ : ∃ V0, V0 = W5.drew := ⟨_, rfl⟩
      have hV0 := hV00
      rw [← hVW] at hV0
      have HV00 := Lib.hid hV00
      have HVW := Lib.hid hVW
      have HN5 := Lib.hid hN5
      clear hN5 hV00 hVW
      refine cut_in (Z := ∀ (x y : Nat) (W : World), FinN N5 W5 x y d1 o1' d2 o2' W → (?G : Nat → Nat → World → Prop) x y W) ?f ?z
      case f =>
        intro hREST
        have hRESTo := Lib.hid hREST
        clear hREST
        refine wp_region_held_drew (S := fun W' => Below N5 W5 W' ∧ W'.cell? ⟨q8, 1, none⟩ = some (.slice (RA k) (RL k) (RC k))) (by kernel_rfl) HV00.out (fun _ => ?_)
        rw [← HVW.out]
        refine wpAnyH_take (i := 0) (oi := { dst := some 43, op := _, type := _, pos := _, after := _, guard := _ }) (v := ?_) rfl (by kernel_rfl) (by kernel_rfl) (by kernel_rfl) (fun _ _ _ h => h) (Or.inl ⟨by rfl, ?_⟩) (by assumption) ?_
        rotate_left
        · intro w' hSw
          try dsimp only at hSw
          go_simp
          try with_reducible rfl
        try simp only [Act.put, List.setIfInBounds_toArray, List.set_cons_zero, List.set_cons_succ]
        refine wpAnyH_take (i := 2) (oi := { dst := some 45, op := _, type := _, pos := _, after := _, guard := _ }) (v := ?_) rfl (by kernel_rfl) (by kernel_rfl) (by kernel_rfl) (fun _ _ _ h => h) (Or.inl ⟨by rfl, ?_⟩) (by assumption) ?_
        rotate_left
        · intro w' hSw
          try dsimp only at hSw
          go_simp
          try with_reducible rfl
        try simp only [Act.put, List.setIfInBounds_toArray, List.set_cons_zero, List.set_cons_succ]
        refine wpAnyH_take (i := 3) (oi := { dst := some 46, op := _, type := _, pos := _, after := _, guard := _ }) (v := ?_) rfl (by kernel_rfl) (by kernel_rfl) (by kernel_rfl) (fun _ _ _ h => h) (Or.inl ⟨by rfl, ?_⟩) (by assumption) ?_
        rotate_left
        · intro w' hSw
          try dsimp only at hSw
          go_simp
          try with_reducible rfl
        try simp only [Act.put, List.setIfInBounds_toArray, List.set_cons_zero, List.set_cons_succ]
        refine wpAnyH_take (i := 4) (oi := { dst := some 47, op := _, type := _, pos := _, after := _, guard := _ }) (v := ?_) rfl (by kernel_rfl) (by kernel_rfl) (by kernel_rfl) (fun _ _ _ h => h) (Or.inl ⟨by rfl, ?_⟩) (by assumption) ?_
        rotate_left
        · intro w' hSw
          try dsimp only at hSw
          go_simp
          try with_reducible rfl
        try simp only [Act.put, List.setIfInBounds_toArray, List.set_cons_zero, List.set_cons_succ]
        refine wpAnyH_take (i := 5) (oi := { dst := some 48, op := _, type := _, pos := _, after := _, guard := _ }) (v := ?_) rfl (by kernel_rfl) (by kernel_rfl) (by kernel_rfl) (fun _ _ _ h => h) (Or.inl ⟨by rfl, ?_⟩) (by assumption) ?_
        rotate_left
        · intro w' hSw
          try dsimp only at hSw
          go_simp
          try with_reducible rfl
        try simp only [Act.put, List.setIfInBounds_toArray, List.set_cons_zero, List.set_cons_succ]
        refine wpAnyH_take (i := 6) (oi := { dst := some 49, op := _, type := _, pos := _, after := _, guard := _ }) (v := ?_) rfl (by kernel_rfl) (by kernel_rfl) (by kernel_rfl) (fun _ _ _ h => h) (Or.inl ⟨by rfl, ?_⟩) (by assumption) ?_
        rotate_left
        · intro w' hSw
          try dsimp only at hSw
          go_simp
          try with_reducible rfl
        try simp only [Act.put, List.setIfInBounds_toArray, List.set_cons_zero, List.set_cons_succ]
        refine wpAnyH_ready (rs := [1, 8, 9]) (by kernel_rfl) (by simp) ?_
        refine AllReadyH.cons (o := { dst := some 44, op := _, type := _, pos := _, after := _, guard := _ }) rfl (fun K hK => ?_) (AllReadyH.cons (o := { dst := some 11, op := _, type := _, pos := _, after := _, guard := _ }) rfl (fun K hK => ?_) (AllReadyH.cons (o := { dst := some 12, op := _, type := _, pos := _, after := _, guard := _ }) rfl (fun K hK => ?_) (AllReadyH.nil)))
        · skip
          go_simp
          go_at_call 17
          refine (HC1.out V0 hV0.1).mono ?_
          rintro e V1 ⟨rfl, hbx1⟩
          try go_wp2_with fail
          have hN1 : N5 ≤ V0.heap.size := Nat.le_trans hNle hV0.1.size
          have hH1 : Below N5 W5 V1 ∧ V1.cell? ⟨q8, 1, none⟩ = some (.slice (RA k) (RL k) (RC k)) := ⟨hV0.1.trans (hbx1.mono hN1), (hbx1.cell (p := ⟨q8, 1, none⟩) (by show q8 < V0.heap.size; omega)).trans hV0.2⟩
          refine hK.out _ _ hH1 (fun _ => ?_)
          clear hK K hbx1
          try simp only [Act.put, List.setIfInBounds_toArray, List.set_cons_zero, List.set_cons_succ]
          refine wpAnyH_ready (rs := [7, 8, 9]) (by kernel_rfl) (by simp) ?_
          refine AllReadyH.cons (o := { dst := some 50, op := _, type := _, pos := _, after := _, guard := _ }) rfl (fun K hK => ?_) (AllReadyH.cons (o := { dst := some 11, op := _, type := _, pos := _, after := _, guard := _ }) rfl (fun K hK => ?_) (AllReadyH.cons (o := { dst := some 12, op := _, type := _, pos := _, after := _, guard := _ }) rfl (fun K hK => ?_) (AllReadyH.nil)))
          · skip
            go_simp
            go_at_call 17
            refine (HC2.out V1 hH1.1).mono ?_
            rintro e V2 ⟨rfl, hbx2⟩
            try go_wp2_with fail
            have hN2 : N5 ≤ V1.heap.size := Nat.le_trans hNle hH1.1.size
            have hH2 : Below N5 W5 V2 ∧ V2.cell? ⟨q8, 1, none⟩ = some (.slice (RA k) (RL k) (RC k)) := ⟨hH1.1.trans (hbx2.mono hN2), (hbx2.cell (p := ⟨q8, 1, none⟩) (by show q8 < V1.heap.size; omega)).trans hH1.2⟩
            refine hK.out _ _ hH2 (fun _ => ?_)
            clear hK K hbx2
            try simp only [Act.put, List.setIfInBounds_toArray, List.set_cons_zero, List.set_cons_succ]
            refine wpAnyH_ready (rs := [8, 9]) (by kernel_rfl) (by simp) ?_
            refine AllReadyH.cons (o := { dst := some 11, op := _, type := _, pos := _, after := _, guard := _ }) rfl (fun K hK => ?_) (AllReadyH.cons (o := { dst := some 12, op := _, type := _, pos := _, after := _, guard := _ }) rfl (fun K hK => ?_) (AllReadyH.nil))
            · skip
              have hN3 : N5 ≤ V2.heap.size := Nat.le_trans hNle hH2.1.size
              have hba3 := (Below.refl V2.heap.size V2).alloc (Nat.le_refl _) (.cells #[.int .i64 0, .int .i64 0] 37)
              have hB3 := Blk.new V2 37 #[.int .i64 0, .int .i64 0]
              have hH3 : Below N5 W5 (V2.alloc (.cells #[.int .i64 0, .int .i64 0] 37)) ∧ (V2.alloc (.cells #[.int .i64 0, .int .i64 0] 37)).cell? ⟨q8, 1, none⟩ = some (.slice (RA k) (RL k) (RC k)) := ⟨hH2.1.alloc hN3 _, (hba3.cell (p := ⟨q8, 1, none⟩) (by show q8 < V2.heap.size; omega)).trans hH2.2⟩
              go_simp
              refine hK.out _ _ hH3 (fun _ => ?_)
              clear hK K hba3
              try simp only [Act.put, List.setIfInBounds_toArray, List.set_cons_zero, List.set_cons_succ]
              generalize V2.alloc (.cells #[.int .i64 0, .int .i64 0] 37) = V3 at *
              generalize V2.heap.size = x3 at *
              refine wpAnyH_ready (rs := [9]) (by kernel_rfl) (by simp) ?_
              refine AllReadyH.cons (o := { dst := some 12, op := _, type := _, pos := _, after := _, guard := _ }) rfl (fun K hK => ?_) (AllReadyH.nil)
              have hN4 : N5 ≤ V3.heap.size := Nat.le_trans hNle hH3.1.size
              have hba4 := (Below.refl V3.heap.size V3).alloc (Nat.le_refl _) (.cells #[.int .i64 0, .int .i64 0] 37)
              have hB4 := Blk.new V3 37 #[.int .i64 0, .int .i64 0]
              have hH4 : Below N5 W5 (V3.alloc (.cells #[.int .i64 0, .int .i64 0] 37)) ∧ (V3.alloc (.cells #[.int .i64 0, .int .i64 0] 37)).cell? ⟨q8, 1, none⟩ = some (.slice (RA k) (RL k) (RC k)) := ⟨hH3.1.alloc hN4 _, (hba4.cell (p := ⟨q8, 1, none⟩) (by show q8 < V3.heap.size; omega)).trans hH3.2⟩
              have hlt4_11 : x3 < V3.heap.size := hB3.lt
              have f4_11 := Blk.below hB3 hB3.lt hba4
              go_simp
              refine hK.out _ _ hH4 (fun _ => ?_)
              clear hK K hba4
              try simp only [Act.put, List.setIfInBounds_toArray, List.set_cons_zero, List.set_cons_succ]
              generalize V3.alloc (.cells #[.int .i64 0, .int .i64 0] 37) = V4 at *
              generalize V3.heap.size = x4 at *
              refine wpAnyH_ready (rs := [10]) (by kernel_rfl) (by simp) ?_
              refine AllReadyH.cons (o := { dst := none, op := _, type := _, pos := _, after := _, guard := _ }) rfl (fun K hK => ?_) (AllReadyH.nil)
              have hr5 := st_pl f4_11 rfl #[.int .i64 (d1 : Int), .int .i64 (o1' : Int)] rfl (by simp [Value.oneCell'])
              have f5_11 := Blk.setRow f4_11 #[.int .i64 (d1 : Int), .int .i64 (o1' : Int)]
              have f5_12 := blk_setRow_ne hB4 (show x4 ≠ x3 by have := f4_11.lt; have := hB4.lt; omega) #[.int .i64 (d1 : Int), .int .i64 (o1' : Int)]
              have hH5 : Below N5 W5 (V4.setRow x3 #[.int .i64 (d1 : Int), .int .i64 (o1' : Int)]) ∧ (V4.setRow x3 #[.int .i64 (d1 : Int), .int .i64 (o1' : Int)]).cell? ⟨q8, 1, none⟩ = some (.slice (RA k) (RL k) (RC k)) := ⟨below_setRowV hH4.1 hN3 _, (cell_setRow_ne (by show q8 ≠ x3; omega) _).trans hH4.2⟩
              refine stepH_store_var x3 _ _ rfl rfl hr5 ?_
              refine hK.out _ _ hH5 (fun _ => ?_)
              clear hK K hr5
              try simp only [Act.put, List.setIfInBounds_toArray, List.set_cons_zero, List.set_cons_succ]
              generalize V4.setRow x3 #[.int .i64 (d1 : Int), .int .i64 (o1' : Int)] = V5 at *
              refine wpAnyH_ready (rs := [11]) (by kernel_rfl) (by simp) ?_
              refine AllReadyH.cons (o := { dst := none, op := _, type := _, pos := _, after := _, guard := _ }) rfl (fun K hK => ?_) (AllReadyH.nil)
              have hr6 := st_pl f5_12 rfl #[.int .i64 (d2 : Int), .int .i64 (o2' : Int)] rfl (by simp [Value.oneCell'])
              have f6_12 := Blk.setRow f5_12 #[.int .i64 (d2 : Int), .int .i64 (o2' : Int)]
              have f6_11 := blk_setRow_ne f5_11 (show x3 ≠ x4 by have := f5_12.lt; have := f5_11.lt; omega) #[.int .i64 (d2 : Int), .int .i64 (o2' : Int)]
              have hH6 : Below N5 W5 (V5.setRow x4 #[.int .i64 (d2 : Int), .int .i64 (o2' : Int)]) ∧ (V5.setRow x4 #[.int .i64 (d2 : Int), .int .i64 (o2' : Int)]).cell? ⟨q8, 1, none⟩ = some (.slice (RA k) (RL k) (RC k)) := ⟨below_setRowV hH5.1 hN4 _, (cell_setRow_ne (by show q8 ≠ x4; omega) _).trans hH5.2⟩
              refine stepH_store_var x4 _ _ rfl rfl hr6 ?_
              refine hK.out _ _ hH6 (fun _ => ?_)
              clear hK K hr6
              try simp only [Act.put, List.setIfInBounds_toArray, List.set_cons_zero, List.set_cons_succ]
              generalize V5.setRow x4 #[.int .i64 (d2 : Int), .int .i64 (o2' : Int)] = V6 at *
              refine wpAnyH_done (by kernel_rfl) ?_ _
              have hfin : FinN N5 W5 x3 x4 d1 o1' d2 o2' V6 := ⟨hH6.1, f6_11, f6_12, hN3, hN4⟩
              exact hRESTo.out.out x3 x4 V6 hfin
            · skip
              have hN7 : N5 ≤ V2.heap.size := Nat.le_trans hNle hH2.1.size
              have hba7 := (Below.refl V2.heap.size V2).alloc (Nat.le_refl _) (.cells #[.int .i64 0, .int .i64 0] 37)
              have hB7 := Blk.new V2 37 #[.int .i64 0, .int .i64 0]
              have hH7 : Below N5 W5 (V2.alloc (.cells #[.int .i64 0, .int .i64 0] 37)) ∧ (V2.alloc (.cells #[.int .i64 0, .int .i64 0] 37)).cell? ⟨q8, 1, none⟩ = some (.slice (RA k) (RL k) (RC k)) := ⟨hH2.1.alloc hN7 _, (hba7.cell (p := ⟨q8, 1, none⟩) (by show q8 < V2.heap.size; omega)).trans hH2.2⟩
              go_simp
              refine hK.out _ _ hH7 (fun _ => ?_)
              clear hK K hba7
              try simp only [Act.put, List.setIfInBounds_toArray, List.set_cons_zero, List.set_cons_succ]
              generalize V2.alloc (.cells #[.int .i64 0, .int .i64 0] 37) = V7 at *
              generalize V2.heap.size = x7 at *
              refine wpAnyH_ready (rs := [8]) (by kernel_rfl) (by simp) ?_
              refine AllReadyH.cons (o := { dst := some 11, op := _, type := _, pos := _, after := _, guard := _ }) rfl (fun K hK => ?_) (AllReadyH.nil)
              have hN8 : N5 ≤ V7.heap.size := Nat.le_trans hNle hH7.1.size
              have hba8 := (Below.refl V7.heap.size V7).alloc (Nat.le_refl _) (.cells #[.int .i64 0, .int .i64 0] 37)
              have hB8 := Blk.new V7 37 #[.int .i64 0, .int .i64 0]
              have hH8 : Below N5 W5 (V7.alloc (.cells #[.int .i64 0, .int .i64 0] 37)) ∧ (V7.alloc (.cells #[.int .i64 0, .int .i64 0] 37)).cell? ⟨q8, 1, none⟩ = some (.slice (RA k) (RL k) (RC k)) := ⟨hH7.1.alloc hN8 _, (hba8.cell (p := ⟨q8, 1, none⟩) (by show q8 < V7.heap.size; omega)).trans hH7.2⟩
              have hlt8_12 : x7 < V7.heap.size := hB7.lt
              have f8_12 := Blk.below hB7 hB7.lt hba8
              go_simp
              refine hK.out _ _ hH8 (fun _ => ?_)
              clear hK K hba8
              try simp only [Act.put, List.setIfInBounds_toArray, List.set_cons_zero, List.set_cons_succ]
              generalize V7.alloc (.cells #[.int .i64 0, .int .i64 0] 37) = V8 at *
              generalize V7.heap.size = x8 at *
              refine wpAnyH_ready (rs := [10]) (by kernel_rfl) (by simp) ?_
              refine AllReadyH.cons (o := { dst := none, op := _, type := _, pos := _, after := _, guard := _ }) rfl (fun K hK => ?_) (AllReadyH.nil)
              have hr9 := st_pl hB8 rfl #[.int .i64 (d1 : Int), .int .i64 (o1' : Int)] rfl (by simp [Value.oneCell'])
              have f9_11 := Blk.setRow hB8 #[.int .i64 (d1 : Int), .int .i64 (o1' : Int)]
              have f9_12 := blk_setRow_ne f8_12 (show x7 ≠ x8 by have := hB8.lt; have := f8_12.lt; omega) #[.int .i64 (d1 : Int), .int .i64 (o1' : Int)]
              have hH9 : Below N5 W5 (V8.setRow x8 #[.int .i64 (d1 : Int), .int .i64 (o1' : Int)]) ∧ (V8.setRow x8 #[.int .i64 (d1 : Int), .int .i64 (o1' : Int)]).cell? ⟨q8, 1, none⟩ = some (.slice (RA k) (RL k) (RC k)) := ⟨below_setRowV hH8.1 hN8 _, (cell_setRow_ne (by show q8 ≠ x8; omega) _).trans hH8.2⟩
              refine stepH_store_var x8 _ _ rfl rfl hr9 ?_
              refine hK.out _ _ hH9 (fun _ => ?_)
              clear hK K hr9
              try simp only [Act.put, List.setIfInBounds_toArray, List.set_cons_zero, List.set_cons_succ]
              generalize V8.setRow x8 #[.int .i64 (d1 : Int), .int .i64 (o1' : Int)] = V9 at *
              refine wpAnyH_ready (rs := [11]) (by kernel_rfl) (by simp) ?_
              refine AllReadyH.cons (o := { dst := none, op := _, type := _, pos := _, after := _, guard := _ }) rfl (fun K hK => ?_) (AllReadyH.nil)
              have hr10 := st_pl f9_12 rfl #[.int .i64 (d2 : Int), .int .i64 (o2' : Int)] rfl (by simp [Value.oneCell'])
              have f10_12 := Blk.setRow f9_12 #[.int .i64 (d2 : Int), .int .i64 (o2' : Int)]
              have f10_11 := blk_setRow_ne f9_11 (show x8 ≠ x7 by have := f9_12.lt; have := f9_11.lt; omega) #[.int .i64 (d2 : Int), .int .i64 (o2' : Int)]
              have hH10 : Below N5 W5 (V9.setRow x7 #[.int .i64 (d2 : Int), .int .i64 (o2' : Int)]) ∧ (V9.setRow x7 #[.int .i64 (d2 : Int), .int .i64 (o2' : Int)]).cell? ⟨q8, 1, none⟩ = some (.slice (RA k) (RL k) (RC k)) := ⟨below_setRowV hH9.1 hN7 _, (cell_setRow_ne (by show q8 ≠ x7; omega) _).trans hH9.2⟩
              refine stepH_store_var x7 _ _ rfl rfl hr10 ?_
              refine hK.out _ _ hH10 (fun _ => ?_)
              clear hK K hr10
              try simp only [Act.put, List.setIfInBounds_toArray, List.set_cons_zero, List.set_cons_succ]
              generalize V9.setRow x7 #[.int .i64 (d2 : Int), .int .i64 (o2' : Int)] = V10 at *
              refine wpAnyH_done (by kernel_rfl) ?_ _
              have hfin : FinN N5 W5 x8 x7 d1 o1' d2 o2' V10 := ⟨hH10.1, f10_11, f10_12, hN8, hN7⟩
              exact hRESTo.out.out x8 x7 V10 hfin
          · skip
            have hN11 : N5 ≤ V1.heap.size := Nat.le_trans hNle hH1.1.size
            have hba11 := (Below.refl V1.heap.size V1).alloc (Nat.le_refl _) (.cells #[.int .i64 0, .int .i64 0] 37)
            have hB11 := Blk.new V1 37 #[.int .i64 0, .int .i64 0]
            have hH11 : Below N5 W5 (V1.alloc (.cells #[.int .i64 0, .int .i64 0] 37)) ∧ (V1.alloc (.cells #[.int .i64 0, .int .i64 0] 37)).cell? ⟨q8, 1, none⟩ = some (.slice (RA k) (RL k) (RC k)) := ⟨hH1.1.alloc hN11 _, (hba11.cell (p := ⟨q8, 1, none⟩) (by show q8 < V1.heap.size; omega)).trans hH1.2⟩
            go_simp
            refine hK.out _ _ hH11 (fun _ => ?_)
            clear hK K hba11
            try simp only [Act.put, List.setIfInBounds_toArray, List.set_cons_zero, List.set_cons_succ]
            generalize V1.alloc (.cells #[.int .i64 0, .int .i64 0] 37) = V11 at *
            generalize V1.heap.size = x11 at *
            refine wpAnyH_ready (rs := [7, 9]) (by kernel_rfl) (by simp) ?_
            refine AllReadyH.cons (o := { dst := some 50, op := _, type := _, pos := _, after := _, guard := _ }) rfl (fun K hK => ?_) (AllReadyH.cons (o := { dst := some 12, op := _, type := _, pos := _, after := _, guard := _ }) rfl (fun K hK => ?_) (AllReadyH.nil))
            · skip
              go_simp
              go_at_call 17
              refine (HC2.out V11 hH11.1).mono ?_
              rintro e V12 ⟨rfl, hbx12⟩
              try go_wp2_with fail
              have hN12 : N5 ≤ V11.heap.size := Nat.le_trans hNle hH11.1.size
              have hH12 : Below N5 W5 V12 ∧ V12.cell? ⟨q8, 1, none⟩ = some (.slice (RA k) (RL k) (RC k)) := ⟨hH11.1.trans (hbx12.mono hN12), (hbx12.cell (p := ⟨q8, 1, none⟩) (by show q8 < V11.heap.size; omega)).trans hH11.2⟩
              have f12_11 := Blk.below hB11 hB11.lt hbx12
              refine hK.out _ _ hH12 (fun _ => ?_)
              clear hK K hbx12
              try simp only [Act.put, List.setIfInBounds_toArray, List.set_cons_zero, List.set_cons_succ]
              refine wpAnyH_ready (rs := [9]) (by kernel_rfl) (by simp) ?_
              refine AllReadyH.cons (o := { dst := some 12, op := _, type := _, pos := _, after := _, guard := _ }) rfl (fun K hK => ?_) (AllReadyH.nil)
              have hN13 : N5 ≤ V12.heap.size := Nat.le_trans hNle hH12.1.size
              have hba13 := (Below.refl V12.heap.size V12).alloc (Nat.le_refl _) (.cells #[.int .i64 0, .int .i64 0] 37)
              have hB13 := Blk.new V12 37 #[.int .i64 0, .int .i64 0]
              have hH13 : Below N5 W5 (V12.alloc (.cells #[.int .i64 0, .int .i64 0] 37)) ∧ (V12.alloc (.cells #[.int .i64 0, .int .i64 0] 37)).cell? ⟨q8, 1, none⟩ = some (.slice (RA k) (RL k) (RC k)) := ⟨hH12.1.alloc hN13 _, (hba13.cell (p := ⟨q8, 1, none⟩) (by show q8 < V12.heap.size; omega)).trans hH12.2⟩
              have hlt13_11 : x11 < V12.heap.size := f12_11.lt
              have f13_11 := Blk.below f12_11 f12_11.lt hba13
              go_simp
              refine hK.out _ _ hH13 (fun _ => ?_)
              clear hK K hba13
              try simp only [Act.put, List.setIfInBounds_toArray, List.set_cons_zero, List.set_cons_succ]
              generalize V12.alloc (.cells #[.int .i64 0, .int .i64 0] 37) = V13 at *
              generalize V12.heap.size = x13 at *
              refine wpAnyH_ready (rs := [10]) (by kernel_rfl) (by simp) ?_
              refine AllReadyH.cons (o := { dst := none, op := _, type := _, pos := _, after := _, guard := _ }) rfl (fun K hK => ?_) (AllReadyH.nil)
              have hr14 := st_pl f13_11 rfl #[.int .i64 (d1 : Int), .int .i64 (o1' : Int)] rfl (by simp [Value.oneCell'])
              have f14_11 := Blk.setRow f13_11 #[.int .i64 (d1 : Int), .int .i64 (o1' : Int)]
              have f14_12 := blk_setRow_ne hB13 (show x13 ≠ x11 by have := f13_11.lt; have := hB13.lt; omega) #[.int .i64 (d1 : Int), .int .i64 (o1' : Int)]
              have hH14 : Below N5 W5 (V13.setRow x11 #[.int .i64 (d1 : Int), .int .i64 (o1' : Int)]) ∧ (V13.setRow x11 #[.int .i64 (d1 : Int), .int .i64 (o1' : Int)]).cell? ⟨q8, 1, none⟩ = some (.slice (RA k) (RL k) (RC k)) := ⟨below_setRowV hH13.1 hN11 _, (cell_setRow_ne (by show q8 ≠ x11; omega) _).trans hH13.2⟩
              refine stepH_store_var x11 _ _ rfl rfl hr14 ?_
              refine hK.out _ _ hH14 (fun _ => ?_)
              clear hK K hr14
              try simp only [Act.put, List.setIfInBounds_toArray, List.set_cons_zero, List.set_cons_succ]
              generalize V13.setRow x11 #[.int .i64 (d1 : Int), .int .i64 (o1' : Int)] = V14 at *
              refine wpAnyH_ready (rs := [11]) (by kernel_rfl) (by simp) ?_
              refine AllReadyH.cons (o := { dst := none, op := _, type := _, pos := _, after := _, guard := _ }) rfl (fun K hK => ?_) (AllReadyH.nil)
              have hr15 := st_pl f14_12 rfl #[.int .i64 (d2 : Int), .int .i64 (o2' : Int)] rfl (by simp [Value.oneCell'])
              have f15_12 := Blk.setRow f14_12 #[.int .i64 (d2 : Int), .int .i64 (o2' : Int)]
              have f15_11 := blk_setRow_ne f14_11 (show x11 ≠ x13 by have := f14_12.lt; have := f14_11.lt; omega) #[.int .i64 (d2 : Int), .int .i64 (o2' : Int)]
              have hH15 : Below N5 W5 (V14.setRow x13 #[.int .i64 (d2 : Int), .int .i64 (o2' : Int)]) ∧ (V14.setRow x13 #[.int .i64 (d2 : Int), .int .i64 (o2' : Int)]).cell? ⟨q8, 1, none⟩ = some (.slice (RA k) (RL k) (RC k)) := ⟨below_setRowV hH14.1 hN13 _, (cell_setRow_ne (by show q8 ≠ x13; omega) _).trans hH14.2⟩
              refine stepH_store_var x13 _ _ rfl rfl hr15 ?_
              refine hK.out _ _ hH15 (fun _ => ?_)
              clear hK K hr15
              try simp only [Act.put, List.setIfInBounds_toArray, List.set_cons_zero, List.set_cons_succ]
              generalize V14.setRow x13 #[.int .i64 (d2 : Int), .int .i64 (o2' : Int)] = V15 at *
              refine wpAnyH_done (by kernel_rfl) ?_ _
              have hfin : FinN N5 W5 x11 x13 d1 o1' d2 o2' V15 := ⟨hH15.1, f15_11, f15_12, hN11, hN13⟩
              exact hRESTo.out.out x11 x13 V15 hfin
            · skip
              have hN16 : N5 ≤ V11.heap.size := Nat.le_trans hNle hH11.1.size
              have hba16 := (Below.refl V11.heap.size V11).alloc (Nat.le_refl _) (.cells #[.int .i64 0, .int .i64 0] 37)
              have hB16 := Blk.new V11 37 #[.int .i64 0, .int .i64 0]
              have hH16 : Below N5 W5 (V11.alloc (.cells #[.int .i64 0, .int .i64 0] 37)) ∧ (V11.alloc (.cells #[.int .i64 0, .int .i64 0] 37)).cell? ⟨q8, 1, none⟩ = some (.slice (RA k) (RL k) (RC k)) := ⟨hH11.1.alloc hN16 _, (hba16.cell (p := ⟨q8, 1, none⟩) (by show q8 < V11.heap.size; omega)).trans hH11.2⟩
              have hlt16_11 : x11 < V11.heap.size := hB11.lt
              have f16_11 := Blk.below hB11 hB11.lt hba16
              go_simp
              refine hK.out _ _ hH16 (fun _ => ?_)
              clear hK K hba16
              try simp only [Act.put, List.setIfInBounds_toArray, List.set_cons_zero, List.set_cons_succ]
              generalize V11.alloc (.cells #[.int .i64 0, .int .i64 0] 37) = V16 at *
              generalize V11.heap.size = x16 at *
              refine wpAnyH_ready (rs := [7]) (by kernel_rfl) (by simp) ?_
              refine AllReadyH.cons (o := { dst := some 50, op := _, type := _, pos := _, after := _, guard := _ }) rfl (fun K hK => ?_) (AllReadyH.nil)
              go_simp
              go_at_call 17
              refine (HC2.out V16 hH16.1).mono ?_
              rintro e V17 ⟨rfl, hbx17⟩
              try go_wp2_with fail
              have hN17 : N5 ≤ V16.heap.size := Nat.le_trans hNle hH16.1.size
              have hH17 : Below N5 W5 V17 ∧ V17.cell? ⟨q8, 1, none⟩ = some (.slice (RA k) (RL k) (RC k)) := ⟨hH16.1.trans (hbx17.mono hN17), (hbx17.cell (p := ⟨q8, 1, none⟩) (by show q8 < V16.heap.size; omega)).trans hH16.2⟩
              have f17_11 := Blk.below f16_11 f16_11.lt hbx17
              have f17_12 := Blk.below hB16 hB16.lt hbx17
              refine hK.out _ _ hH17 (fun _ => ?_)
              clear hK K hbx17
              try simp only [Act.put, List.setIfInBounds_toArray, List.set_cons_zero, List.set_cons_succ]
              refine wpAnyH_ready (rs := [10]) (by kernel_rfl) (by simp) ?_
              refine AllReadyH.cons (o := { dst := none, op := _, type := _, pos := _, after := _, guard := _ }) rfl (fun K hK => ?_) (AllReadyH.nil)
              have hr18 := st_pl f17_11 rfl #[.int .i64 (d1 : Int), .int .i64 (o1' : Int)] rfl (by simp [Value.oneCell'])
              have f18_11 := Blk.setRow f17_11 #[.int .i64 (d1 : Int), .int .i64 (o1' : Int)]
              have f18_12 := blk_setRow_ne f17_12 (show x16 ≠ x11 by have := f17_11.lt; have := f17_12.lt; omega) #[.int .i64 (d1 : Int), .int .i64 (o1' : Int)]
              have hH18 : Below N5 W5 (V17.setRow x11 #[.int .i64 (d1 : Int), .int .i64 (o1' : Int)]) ∧ (V17.setRow x11 #[.int .i64 (d1 : Int), .int .i64 (o1' : Int)]).cell? ⟨q8, 1, none⟩ = some (.slice (RA k) (RL k) (RC k)) := ⟨below_setRowV hH17.1 hN11 _, (cell_setRow_ne (by show q8 ≠ x11; omega) _).trans hH17.2⟩
              refine stepH_store_var x11 _ _ rfl rfl hr18 ?_
              refine hK.out _ _ hH18 (fun _ => ?_)
              clear hK K hr18
              try simp only [Act.put, List.setIfInBounds_toArray, List.set_cons_zero, List.set_cons_succ]
              generalize V17.setRow x11 #[.int .i64 (d1 : Int), .int .i64 (o1' : Int)] = V18 at *
              refine wpAnyH_ready (rs := [11]) (by kernel_rfl) (by simp) ?_
              refine AllReadyH.cons (o := { dst := none, op := _, type := _, pos := _, after := _, guard := _ }) rfl (fun K hK => ?_) (AllReadyH.nil)
              have hr19 := st_pl f18_12 rfl #[.int .i64 (d2 : Int), .int .i64 (o2' : Int)] rfl (by simp [Value.oneCell'])
              have f19_12 := Blk.setRow f18_12 #[.int .i64 (d2 : Int), .int .i64 (o2' : Int)]
              have f19_11 := blk_setRow_ne f18_11 (show x11 ≠ x16 by have := f18_12.lt; have := f18_11.lt; omega) #[.int .i64 (d2 : Int), .int .i64 (o2' : Int)]
              have hH19 : Below N5 W5 (V18.setRow x16 #[.int .i64 (d2 : Int), .int .i64 (o2' : Int)]) ∧ (V18.setRow x16 #[.int .i64 (d2 : Int), .int .i64 (o2' : Int)]).cell? ⟨q8, 1, none⟩ = some (.slice (RA k) (RL k) (RC k)) := ⟨below_setRowV hH18.1 hN16 _, (cell_setRow_ne (by show q8 ≠ x16; omega) _).trans hH18.2⟩
              refine stepH_store_var x16 _ _ rfl rfl hr19 ?_
              refine hK.out _ _ hH19 (fun _ => ?_)
              clear hK K hr19
              try simp only [Act.put, List.setIfInBounds_toArray, List.set_cons_zero, List.set_cons_succ]
              generalize V18.setRow x16 #[.int .i64 (d2 : Int), .int .i64 (o2' : Int)] = V19 at *
              refine wpAnyH_done (by kernel_rfl) ?_ _
              have hfin : FinN N5 W5 x11 x16 d1 o1' d2 o2' V19 := ⟨hH19.1, f19_11, f19_12, hN11, hN16⟩
              exact hRESTo.out.out x11 x16 V19 hfin
          · skip
            have hN20 : N5 ≤ V1.heap.size := Nat.le_trans hNle hH1.1.size
            have hba20 := (Below.refl V1.heap.size V1).alloc (Nat.le_refl _) (.cells #[.int .i64 0, .int .i64 0] 37)
            have hB20 := Blk.new V1 37 #[.int .i64 0, .int .i64 0]
            have hH20 : Below N5 W5 (V1.alloc (.cells #[.int .i64 0, .int .i64 0] 37)) ∧ (V1.alloc (.cells #[.int .i64 0, .int .i64 0] 37)).cell? ⟨q8, 1, none⟩ = some (.slice (RA k) (RL k) (RC k)) := ⟨hH1.1.alloc hN20 _, (hba20.cell (p := ⟨q8, 1, none⟩) (by show q8 < V1.heap.size; omega)).trans hH1.2⟩
            go_simp
            refine hK.out _ _ hH20 (fun _ => ?_)
            clear hK K hba20
            try simp only [Act.put, List.setIfInBounds_toArray, List.set_cons_zero, List.set_cons_succ]
            generalize V1.alloc (.cells #[.int .i64 0, .int .i64 0] 37) = V20 at *
            generalize V1.heap.size = x20 at *
            refine wpAnyH_ready (rs := [7, 8]) (by kernel_rfl) (by simp) ?_
            refine AllReadyH.cons (o := { dst := some 50, op := _, type := _, pos := _, after := _, guard := _ }) rfl (fun K hK => ?_) (AllReadyH.cons (o := { dst := some 11, op := _, type := _, pos := _, after := _, guard := _ }) rfl (fun K hK => ?_) (AllReadyH.nil))
            · skip
              go_simp
              go_at_call 17
              refine (HC2.out V20 hH20.1).mono ?_
              rintro e V21 ⟨rfl, hbx21⟩
              try go_wp2_with fail
              have hN21 : N5 ≤ V20.heap.size := Nat.le_trans hNle hH20.1.size
              have hH21 : Below N5 W5 V21 ∧ V21.cell? ⟨q8, 1, none⟩ = some (.slice (RA k) (RL k) (RC k)) := ⟨hH20.1.trans (hbx21.mono hN21), (hbx21.cell (p := ⟨q8, 1, none⟩) (by show q8 < V20.heap.size; omega)).trans hH20.2⟩
              have f21_12 := Blk.below hB20 hB20.lt hbx21
              refine hK.out _ _ hH21 (fun _ => ?_)
              clear hK K hbx21
              try simp only [Act.put, List.setIfInBounds_toArray, List.set_cons_zero, List.set_cons_succ]
              refine wpAnyH_ready (rs := [8]) (by kernel_rfl) (by simp) ?_
              refine AllReadyH.cons (o := { dst := some 11, op := _, type := _, pos := _, after := _, guard := _ }) rfl (fun K hK => ?_) (AllReadyH.nil)
              have hN22 : N5 ≤ V21.heap.size := Nat.le_trans hNle hH21.1.size
              have hba22 := (Below.refl V21.heap.size V21).alloc (Nat.le_refl _) (.cells #[.int .i64 0, .int .i64 0] 37)
              have hB22 := Blk.new V21 37 #[.int .i64 0, .int .i64 0]
              have hH22 : Below N5 W5 (V21.alloc (.cells #[.int .i64 0, .int .i64 0] 37)) ∧ (V21.alloc (.cells #[.int .i64 0, .int .i64 0] 37)).cell? ⟨q8, 1, none⟩ = some (.slice (RA k) (RL k) (RC k)) := ⟨hH21.1.alloc hN22 _, (hba22.cell (p := ⟨q8, 1, none⟩) (by show q8 < V21.heap.size; omega)).trans hH21.2⟩
              have hlt22_12 : x20 < V21.heap.size := f21_12.lt
              have f22_12 := Blk.below f21_12 f21_12.lt hba22
              go_simp
              refine hK.out _ _ hH22 (fun _ => ?_)
              clear hK K hba22
              try simp only [Act.put, List.setIfInBounds_toArray, List.set_cons_zero, List.set_cons_succ]
              generalize V21.alloc (.cells #[.int .i64 0, .int .i64 0] 37) = V22 at *
              generalize V21.heap.size = x22 at *
              refine wpAnyH_ready (rs := [10]) (by kernel_rfl) (by simp) ?_
              refine AllReadyH.cons (o := { dst := none, op := _, type := _, pos := _, after := _, guard := _ }) rfl (fun K hK => ?_) (AllReadyH.nil)
              have hr23 := st_pl hB22 rfl #[.int .i64 (d1 : Int), .int .i64 (o1' : Int)] rfl (by simp [Value.oneCell'])
              have f23_11 := Blk.setRow hB22 #[.int .i64 (d1 : Int), .int .i64 (o1' : Int)]
              have f23_12 := blk_setRow_ne f22_12 (show x20 ≠ x22 by have := hB22.lt; have := f22_12.lt; omega) #[.int .i64 (d1 : Int), .int .i64 (o1' : Int)]
              have hH23 : Below N5 W5 (V22.setRow x22 #[.int .i64 (d1 : Int), .int .i64 (o1' : Int)]) ∧ (V22.setRow x22 #[.int .i64 (d1 : Int), .int .i64 (o1' : Int)]).cell? ⟨q8, 1, none⟩ = some (.slice (RA k) (RL k) (RC k)) := ⟨below_setRowV hH22.1 hN22 _, (cell_setRow_ne (by show q8 ≠ x22; omega) _).trans hH22.2⟩
              refine stepH_store_var x22 _ _ rfl rfl hr23 ?_
              refine hK.out _ _ hH23 (fun _ => ?_)
              clear hK K hr23
              try simp only [Act.put, List.setIfInBounds_toArray, List.set_cons_zero, List.set_cons_succ]
              generalize V22.setRow x22 #[.int .i64 (d1 : Int), .int .i64 (o1' : Int)] = V23 at *
              refine wpAnyH_ready (rs := [11]) (by kernel_rfl) (by simp) ?_
              refine AllReadyH.cons (o := { dst := none, op := _, type := _, pos := _, after := _, guard := _ }) rfl (fun K hK => ?_) (AllReadyH.nil)
              have hr24 := st_pl f23_12 rfl #[.int .i64 (d2 : Int), .int .i64 (o2' : Int)] rfl (by simp [Value.oneCell'])
              have f24_12 := Blk.setRow f23_12 #[.int .i64 (d2 : Int), .int .i64 (o2' : Int)]
              have f24_11 := blk_setRow_ne f23_11 (show x22 ≠ x20 by have := f23_12.lt; have := f23_11.lt; omega) #[.int .i64 (d2 : Int), .int .i64 (o2' : Int)]
              have hH24 : Below N5 W5 (V23.setRow x20 #[.int .i64 (d2 : Int), .int .i64 (o2' : Int)]) ∧ (V23.setRow x20 #[.int .i64 (d2 : Int), .int .i64 (o2' : Int)]).cell? ⟨q8, 1, none⟩ = some (.slice (RA k) (RL k) (RC k)) := ⟨below_setRowV hH23.1 hN20 _, (cell_setRow_ne (by show q8 ≠ x20; omega) _).trans hH23.2⟩
              refine stepH_store_var x20 _ _ rfl rfl hr24 ?_
              refine hK.out _ _ hH24 (fun _ => ?_)
              clear hK K hr24
              try simp only [Act.put, List.setIfInBounds_toArray, List.set_cons_zero, List.set_cons_succ]
              generalize V23.setRow x20 #[.int .i64 (d2 : Int), .int .i64 (o2' : Int)] = V24 at *
              refine wpAnyH_done (by kernel_rfl) ?_ _
              have hfin : FinN N5 W5 x22 x20 d1 o1' d2 o2' V24 := ⟨hH24.1, f24_11, f24_12, hN22, hN20⟩
              exact hRESTo.out.out x22 x20 V24 hfin
            · skip
              have hN25 : N5 ≤ V20.heap.size := Nat.le_trans hNle hH20.1.size
              have hba25 := (Below.refl V20.heap.size V20).alloc (Nat.le_refl _) (.cells #[.int .i64 0, .int .i64 0] 37)
              have hB25 := Blk.new V20 37 #[.int .i64 0, .int .i64 0]
              have hH25 : Below N5 W5 (V20.alloc (.cells #[.int .i64 0, .int .i64 0] 37)) ∧ (V20.alloc (.cells #[.int .i64 0, .int .i64 0] 37)).cell? ⟨q8, 1, none⟩ = some (.slice (RA k) (RL k) (RC k)) := ⟨hH20.1.alloc hN25 _, (hba25.cell (p := ⟨q8, 1, none⟩) (by show q8 < V20.heap.size; omega)).trans hH20.2⟩
              have hlt25_12 : x20 < V20.heap.size := hB20.lt
              have f25_12 := Blk.below hB20 hB20.lt hba25
              go_simp
              refine hK.out _ _ hH25 (fun _ => ?_)
              clear hK K hba25
              try simp only [Act.put, List.setIfInBounds_toArray, List.set_cons_zero, List.set_cons_succ]
              generalize V20.alloc (.cells #[.int .i64 0, .int .i64 0] 37) = V25 at *
              generalize V20.heap.size = x25 at *
              refine wpAnyH_ready (rs := [7]) (by kernel_rfl) (by simp) ?_
              refine AllReadyH.cons (o := { dst := some 50, op := _, type := _, pos := _, after := _, guard := _ }) rfl (fun K hK => ?_) (AllReadyH.nil)
              go_simp
              go_at_call 17
              refine (HC2.out V25 hH25.1).mono ?_
              rintro e V26 ⟨rfl, hbx26⟩
              try go_wp2_with fail
              have hN26 : N5 ≤ V25.heap.size := Nat.le_trans hNle hH25.1.size
              have hH26 : Below N5 W5 V26 ∧ V26.cell? ⟨q8, 1, none⟩ = some (.slice (RA k) (RL k) (RC k)) := ⟨hH25.1.trans (hbx26.mono hN26), (hbx26.cell (p := ⟨q8, 1, none⟩) (by show q8 < V25.heap.size; omega)).trans hH25.2⟩
              have f26_12 := Blk.below f25_12 f25_12.lt hbx26
              have f26_11 := Blk.below hB25 hB25.lt hbx26
              refine hK.out _ _ hH26 (fun _ => ?_)
              clear hK K hbx26
              try simp only [Act.put, List.setIfInBounds_toArray, List.set_cons_zero, List.set_cons_succ]
              refine wpAnyH_ready (rs := [10]) (by kernel_rfl) (by simp) ?_
              refine AllReadyH.cons (o := { dst := none, op := _, type := _, pos := _, after := _, guard := _ }) rfl (fun K hK => ?_) (AllReadyH.nil)
              have hr27 := st_pl f26_11 rfl #[.int .i64 (d1 : Int), .int .i64 (o1' : Int)] rfl (by simp [Value.oneCell'])
              have f27_11 := Blk.setRow f26_11 #[.int .i64 (d1 : Int), .int .i64 (o1' : Int)]
              have f27_12 := blk_setRow_ne f26_12 (show x20 ≠ x25 by have := f26_11.lt; have := f26_12.lt; omega) #[.int .i64 (d1 : Int), .int .i64 (o1' : Int)]
              have hH27 : Below N5 W5 (V26.setRow x25 #[.int .i64 (d1 : Int), .int .i64 (o1' : Int)]) ∧ (V26.setRow x25 #[.int .i64 (d1 : Int), .int .i64 (o1' : Int)]).cell? ⟨q8, 1, none⟩ = some (.slice (RA k) (RL k) (RC k)) := ⟨below_setRowV hH26.1 hN25 _, (cell_setRow_ne (by show q8 ≠ x25; omega) _).trans hH26.2⟩
              refine stepH_store_var x25 _ _ rfl rfl hr27 ?_
              refine hK.out _ _ hH27 (fun _ => ?_)
              clear hK K hr27
              try simp only [Act.put, List.setIfInBounds_toArray, List.set_cons_zero, List.set_cons_succ]
              generalize V26.setRow x25 #[.int .i64 (d1 : Int), .int .i64 (o1' : Int)] = V27 at *
              refine wpAnyH_ready (rs := [11]) (by kernel_rfl) (by simp) ?_
              refine AllReadyH.cons (o := { dst := none, op := _, type := _, pos := _, after := _, guard := _ }) rfl (fun K hK => ?_) (AllReadyH.nil)
              have hr28 := st_pl f27_12 rfl #[.int .i64 (d2 : Int), .int .i64 (o2' : Int)] rfl (by simp [Value.oneCell'])
              have f28_12 := Blk.setRow f27_12 #[.int .i64 (d2 : Int), .int .i64 (o2' : Int)]
              have f28_11 := blk_setRow_ne f27_11 (show x25 ≠ x20 by have := f27_12.lt; have := f27_11.lt; omega) #[.int .i64 (d2 : Int), .int .i64 (o2' : Int)]
              have hH28 : Below N5 W5 (V27.setRow x20 #[.int .i64 (d2 : Int), .int .i64 (o2' : Int)]) ∧ (V27.setRow x20 #[.int .i64 (d2 : Int), .int .i64 (o2' : Int)]).cell? ⟨q8, 1, none⟩ = some (.slice (RA k) (RL k) (RC k)) := ⟨below_setRowV hH27.1 hN20 _, (cell_setRow_ne (by show q8 ≠ x20; omega) _).trans hH27.2⟩
              refine stepH_store_var x20 _ _ rfl rfl hr28 ?_
              refine hK.out _ _ hH28 (fun _ => ?_)
              clear hK K hr28
              try simp only [Act.put, List.setIfInBounds_toArray, List.set_cons_zero, List.set_cons_succ]
              generalize V27.setRow x20 #[.int .i64 (d2 : Int), .int .i64 (o2' : Int)] = V28 at *
              refine wpAnyH_done (by kernel_rfl) ?_ _
              have hfin : FinN N5 W5 x25 x20 d1 o1' d2 o2' V28 := ⟨hH28.1, f28_11, f28_12, hN25, hN20⟩
              exact hRESTo.out.out x25 x20 V28 hfin
        · skip
          have hN29 : N5 ≤ V0.heap.size := Nat.le_trans hNle hV0.1.size
          have hba29 := (Below.refl V0.heap.size V0).alloc (Nat.le_refl _) (.cells #[.int .i64 0, .int .i64 0] 37)
          have hB29 := Blk.new V0 37 #[.int .i64 0, .int .i64 0]
          have hH29 : Below N5 W5 (V0.alloc (.cells #[.int .i64 0, .int .i64 0] 37)) ∧ (V0.alloc (.cells #[.int .i64 0, .int .i64 0] 37)).cell? ⟨q8, 1, none⟩ = some (.slice (RA k) (RL k) (RC k)) := ⟨hV0.1.alloc hN29 _, (hba29.cell (p := ⟨q8, 1, none⟩) (by show q8 < V0.heap.size; omega)).trans hV0.2⟩
          go_simp
          refine hK.out _ _ hH29 (fun _ => ?_)
          clear hK K hba29
          try simp only [Act.put, List.setIfInBounds_toArray, List.set_cons_zero, List.set_cons_succ]
          generalize V0.alloc (.cells #[.int .i64 0, .int .i64 0] 37) = V29 at *
          generalize V0.heap.size = x29 at *
          refine wpAnyH_ready (rs := [1, 9]) (by kernel_rfl) (by simp) ?_
          refine AllReadyH.cons (o := { dst := some 44, op := _, type := _, pos := _, after := _, guard := _ }) rfl (fun K hK => ?_) (AllReadyH.cons (o := { dst := some 12, op := _, type := _, pos := _, after := _, guard := _ }) rfl (fun K hK => ?_) (AllReadyH.nil))
          · skip
            go_simp
            go_at_call 17
            refine (HC1.out V29 hH29.1).mono ?_
            rintro e V30 ⟨rfl, hbx30⟩
            try go_wp2_with fail
            have hN30 : N5 ≤ V29.heap.size := Nat.le_trans hNle hH29.1.size
            have hH30 : Below N5 W5 V30 ∧ V30.cell? ⟨q8, 1, none⟩ = some (.slice (RA k) (RL k) (RC k)) := ⟨hH29.1.trans (hbx30.mono hN30), (hbx30.cell (p := ⟨q8, 1, none⟩) (by show q8 < V29.heap.size; omega)).trans hH29.2⟩
            have f30_11 := Blk.below hB29 hB29.lt hbx30
            refine hK.out _ _ hH30 (fun _ => ?_)
            clear hK K hbx30
            try simp only [Act.put, List.setIfInBounds_toArray, List.set_cons_zero, List.set_cons_succ]
            refine wpAnyH_ready (rs := [7, 9]) (by kernel_rfl) (by simp) ?_
            refine AllReadyH.cons (o := { dst := some 50, op := _, type := _, pos := _, after := _, guard := _ }) rfl (fun K hK => ?_) (AllReadyH.cons (o := { dst := some 12, op := _, type := _, pos := _, after := _, guard := _ }) rfl (fun K hK => ?_) (AllReadyH.nil))
            · skip
              go_simp
              go_at_call 17
              refine (HC2.out V30 hH30.1).mono ?_
              rintro e V31 ⟨rfl, hbx31⟩
              try go_wp2_with fail
              have hN31 : N5 ≤ V30.heap.size := Nat.le_trans hNle hH30.1.size
              have hH31 : Below N5 W5 V31 ∧ V31.cell? ⟨q8, 1, none⟩ = some (.slice (RA k) (RL k) (RC k)) := ⟨hH30.1.trans (hbx31.mono hN31), (hbx31.cell (p := ⟨q8, 1, none⟩) (by show q8 < V30.heap.size; omega)).trans hH30.2⟩
              have f31_11 := Blk.below f30_11 f30_11.lt hbx31
              refine hK.out _ _ hH31 (fun _ => ?_)
              clear hK K hbx31
              try simp only [Act.put, List.setIfInBounds_toArray, List.set_cons_zero, List.set_cons_succ]
              refine wpAnyH_ready (rs := [9]) (by kernel_rfl) (by simp) ?_
              refine AllReadyH.cons (o := { dst := some 12, op := _, type := _, pos := _, after := _, guard := _ }) rfl (fun K hK => ?_) (AllReadyH.nil)
              have hN32 : N5 ≤ V31.heap.size := Nat.le_trans hNle hH31.1.size
              have hba32 := (Below.refl V31.heap.size V31).alloc (Nat.le_refl _) (.cells #[.int .i64 0, .int .i64 0] 37)
              have hB32 := Blk.new V31 37 #[.int .i64 0, .int .i64 0]
              have hH32 : Below N5 W5 (V31.alloc (.cells #[.int .i64 0, .int .i64 0] 37)) ∧ (V31.alloc (.cells #[.int .i64 0, .int .i64 0] 37)).cell? ⟨q8, 1, none⟩ = some (.slice (RA k) (RL k) (RC k)) := ⟨hH31.1.alloc hN32 _, (hba32.cell (p := ⟨q8, 1, none⟩) (by show q8 < V31.heap.size; omega)).trans hH31.2⟩
              have hlt32_11 : x29 < V31.heap.size := f31_11.lt
              have f32_11 := Blk.below f31_11 f31_11.lt hba32
              go_simp
              refine hK.out _ _ hH32 (fun _ => ?_)
              clear hK K hba32
              try simp only [Act.put, List.setIfInBounds_toArray, List.set_cons_zero, List.set_cons_succ]
              generalize V31.alloc (.cells #[.int .i64 0, .int .i64 0] 37) = V32 at *
              generalize V31.heap.size = x32 at *
              refine wpAnyH_ready (rs := [10]) (by kernel_rfl) (by simp) ?_
              refine AllReadyH.cons (o := { dst := none, op := _, type := _, pos := _, after := _, guard := _ }) rfl (fun K hK => ?_) (AllReadyH.nil)
              have hr33 := st_pl f32_11 rfl #[.int .i64 (d1 : Int), .int .i64 (o1' : Int)] rfl (by simp [Value.oneCell'])
              have f33_11 := Blk.setRow f32_11 #[.int .i64 (d1 : Int), .int .i64 (o1' : Int)]
              have f33_12 := blk_setRow_ne hB32 (show x32 ≠ x29 by have := f32_11.lt; have := hB32.lt; omega) #[.int .i64 (d1 : Int), .int .i64 (o1' : Int)]
              have hH33 : Below N5 W5 (V32.setRow x29 #[.int .i64 (d1 : Int), .int .i64 (o1' : Int)]) ∧ (V32.setRow x29 #[.int .i64 (d1 : Int), .int .i64 (o1' : Int)]).cell? ⟨q8, 1, none⟩ = some (.slice (RA k) (RL k) (RC k)) := ⟨below_setRowV hH32.1 hN29 _, (cell_setRow_ne (by show q8 ≠ x29; omega) _).trans hH32.2⟩
              refine stepH_store_var x29 _ _ rfl rfl hr33 ?_
              refine hK.out _ _ hH33 (fun _ => ?_)
              clear hK K hr33
              try simp only [Act.put, List.setIfInBounds_toArray, List.set_cons_zero, List.set_cons_succ]
              generalize V32.setRow x29 #[.int .i64 (d1 : Int), .int .i64 (o1' : Int)] = V33 at *
              refine wpAnyH_ready (rs := [11]) (by kernel_rfl) (by simp) ?_
              refine AllReadyH.cons (o := { dst := none, op := _, type := _, pos := _, after := _, guard := _ }) rfl (fun K hK => ?_) (AllReadyH.nil)
              have hr34 := st_pl f33_12 rfl #[.int .i64 (d2 : Int), .int .i64 (o2' : Int)] rfl (by simp [Value.oneCell'])
              have f34_12 := Blk.setRow f33_12 #[.int .i64 (d2 : Int), .int .i64 (o2' : Int)]
              have f34_11 := blk_setRow_ne f33_11 (show x29 ≠ x32 by have := f33_12.lt; have := f33_11.lt; omega) #[.int .i64 (d2 : Int), .int .i64 (o2' : Int)]
              have hH34 : Below N5 W5 (V33.setRow x32 #[.int .i64 (d2 : Int), .int .i64 (o2' : Int)]) ∧ (V33.setRow x32 #[.int .i64 (d2 : Int), .int .i64 (o2' : Int)]).cell? ⟨q8, 1, none⟩ = some (.slice (RA k) (RL k) (RC k)) := ⟨below_setRowV hH33.1 hN32 _, (cell_setRow_ne (by show q8 ≠ x32; omega) _).trans hH33.2⟩
              refine stepH_store_var x32 _ _ rfl rfl hr34 ?_
              refine hK.out _ _ hH34 (fun _ => ?_)
              clear hK K hr34
              try simp only [Act.put, List.setIfInBounds_toArray, List.set_cons_zero, List.set_cons_succ]
              generalize V33.setRow x32 #[.int .i64 (d2 : Int), .int .i64 (o2' : Int)] = V34 at *
              refine wpAnyH_done (by kernel_rfl) ?_ _
              have hfin : FinN N5 W5 x29 x32 d1 o1' d2 o2' V34 := ⟨hH34.1, f34_11, f34_12, hN29, hN32⟩
              exact hRESTo.out.out x29 x32 V34 hfin
            · skip
              have hN35 : N5 ≤ V30.heap.size := Nat.le_trans hNle hH30.1.size
              have hba35 := (Below.refl V30.heap.size V30).alloc (Nat.le_refl _) (.cells #[.int .i64 0, .int .i64 0] 37)
              have hB35 := Blk.new V30 37 #[.int .i64 0, .int .i64 0]
              have hH35 : Below N5 W5 (V30.alloc (.cells #[.int .i64 0, .int .i64 0] 37)) ∧ (V30.alloc (.cells #[.int .i64 0, .int .i64 0] 37)).cell? ⟨q8, 1, none⟩ = some (.slice (RA k) (RL k) (RC k)) := ⟨hH30.1.alloc hN35 _, (hba35.cell (p := ⟨q8, 1, none⟩) (by show q8 < V30.heap.size; omega)).trans hH30.2⟩
              have hlt35_11 : x29 < V30.heap.size := f30_11.lt
              have f35_11 := Blk.below f30_11 f30_11.lt hba35
              go_simp
              refine hK.out _ _ hH35 (fun _ => ?_)
              clear hK K hba35
              try simp only [Act.put, List.setIfInBounds_toArray, List.set_cons_zero, List.set_cons_succ]
              generalize V30.alloc (.cells #[.int .i64 0, .int .i64 0] 37) = V35 at *
              generalize V30.heap.size = x35 at *
              refine wpAnyH_ready (rs := [7]) (by kernel_rfl) (by simp) ?_
              refine AllReadyH.cons (o := { dst := some 50, op := _, type := _, pos := _, after := _, guard := _ }) rfl (fun K hK => ?_) (AllReadyH.nil)
              go_simp
              go_at_call 17
              refine (HC2.out V35 hH35.1).mono ?_
              rintro e V36 ⟨rfl, hbx36⟩
              try go_wp2_with fail
              have hN36 : N5 ≤ V35.heap.size := Nat.le_trans hNle hH35.1.size
              have hH36 : Below N5 W5 V36 ∧ V36.cell? ⟨q8, 1, none⟩ = some (.slice (RA k) (RL k) (RC k)) := ⟨hH35.1.trans (hbx36.mono hN36), (hbx36.cell (p := ⟨q8, 1, none⟩) (by show q8 < V35.heap.size; omega)).trans hH35.2⟩
              have f36_11 := Blk.below f35_11 f35_11.lt hbx36
              have f36_12 := Blk.below hB35 hB35.lt hbx36
              refine hK.out _ _ hH36 (fun _ => ?_)
              clear hK K hbx36
              try simp only [Act.put, List.setIfInBounds_toArray, List.set_cons_zero, List.set_cons_succ]
              refine wpAnyH_ready (rs := [10]) (by kernel_rfl) (by simp) ?_
              refine AllReadyH.cons (o := { dst := none, op := _, type := _, pos := _, after := _, guard := _ }) rfl (fun K hK => ?_) (AllReadyH.nil)
              have hr37 := st_pl f36_11 rfl #[.int .i64 (d1 : Int), .int .i64 (o1' : Int)] rfl (by simp [Value.oneCell'])
              have f37_11 := Blk.setRow f36_11 #[.int .i64 (d1 : Int), .int .i64 (o1' : Int)]
              have f37_12 := blk_setRow_ne f36_12 (show x35 ≠ x29 by have := f36_11.lt; have := f36_12.lt; omega) #[.int .i64 (d1 : Int), .int .i64 (o1' : Int)]
              have hH37 : Below N5 W5 (V36.setRow x29 #[.int .i64 (d1 : Int), .int .i64 (o1' : Int)]) ∧ (V36.setRow x29 #[.int .i64 (d1 : Int), .int .i64 (o1' : Int)]).cell? ⟨q8, 1, none⟩ = some (.slice (RA k) (RL k) (RC k)) := ⟨below_setRowV hH36.1 hN29 _, (cell_setRow_ne (by show q8 ≠ x29; omega) _).trans hH36.2⟩
              refine stepH_store_var x29 _ _ rfl rfl hr37 ?_
              refine hK.out _ _ hH37 (fun _ => ?_)
              clear hK K hr37
              try simp only [Act.put, List.setIfInBounds_toArray, List.set_cons_zero, List.set_cons_succ]
              generalize V36.setRow x29 #[.int .i64 (d1 : Int), .int .i64 (o1' : Int)] = V37 at *
              refine wpAnyH_ready (rs := [11]) (by kernel_rfl) (by simp) ?_
              refine AllReadyH.cons (o := { dst := none, op := _, type := _, pos := _, after := _, guard := _ }) rfl (fun K hK => ?_) (AllReadyH.nil)
              have hr38 := st_pl f37_12 rfl #[.int .i64 (d2 : Int), .int .i64 (o2' : Int)] rfl (by simp [Value.oneCell'])
              have f38_12 := Blk.setRow f37_12 #[.int .i64 (d2 : Int), .int .i64 (o2' : Int)]
              have f38_11 := blk_setRow_ne f37_11 (show x29 ≠ x35 by have := f37_12.lt; have := f37_11.lt; omega) #[.int .i64 (d2 : Int), .int .i64 (o2' : Int)]
              have hH38 : Below N5 W5 (V37.setRow x35 #[.int .i64 (d2 : Int), .int .i64 (o2' : Int)]) ∧ (V37.setRow x35 #[.int .i64 (d2 : Int), .int .i64 (o2' : Int)]).cell? ⟨q8, 1, none⟩ = some (.slice (RA k) (RL k) (RC k)) := ⟨below_setRowV hH37.1 hN35 _, (cell_setRow_ne (by show q8 ≠ x35; omega) _).trans hH37.2⟩
              refine stepH_store_var x35 _ _ rfl rfl hr38 ?_
              refine hK.out _ _ hH38 (fun _ => ?_)
              clear hK K hr38
              try simp only [Act.put, List.setIfInBounds_toArray, List.set_cons_zero, List.set_cons_succ]
              generalize V37.setRow x35 #[.int .i64 (d2 : Int), .int .i64 (o2' : Int)] = V38 at *
              refine wpAnyH_done (by kernel_rfl) ?_ _
              have hfin : FinN N5 W5 x29 x35 d1 o1' d2 o2' V38 := ⟨hH38.1, f38_11, f38_12, hN29, hN35⟩
              exact hRESTo.out.out x29 x35 V38 hfin
          · skip
            have hN39 : N5 ≤ V29.heap.size := Nat.le_trans hNle hH29.1.size
            have hba39 := (Below.refl V29.heap.size V29).alloc (Nat.le_refl _) (.cells #[.int .i64 0, .int .i64 0] 37)
            have hB39 := Blk.new V29 37 #[.int .i64 0, .int .i64 0]
            have hH39 : Below N5 W5 (V29.alloc (.cells #[.int .i64 0, .int .i64 0] 37)) ∧ (V29.alloc (.cells #[.int .i64 0, .int .i64 0] 37)).cell? ⟨q8, 1, none⟩ = some (.slice (RA k) (RL k) (RC k)) := ⟨hH29.1.alloc hN39 _, (hba39.cell (p := ⟨q8, 1, none⟩) (by show q8 < V29.heap.size; omega)).trans hH29.2⟩
            have hlt39_11 : x29 < V29.heap.size := hB29.lt
            have f39_11 := Blk.below hB29 hB29.lt hba39
            go_simp
            refine hK.out _ _ hH39 (fun _ => ?_)
            clear hK K hba39
            try simp only [Act.put, List.setIfInBounds_toArray, List.set_cons_zero, List.set_cons_succ]
            generalize V29.alloc (.cells #[.int .i64 0, .int .i64 0] 37) = V39 at *
            generalize V29.heap.size = x39 at *
            refine wpAnyH_ready (rs := [1]) (by kernel_rfl) (by simp) ?_
            refine AllReadyH.cons (o := { dst := some 44, op := _, type := _, pos := _, after := _, guard := _ }) rfl (fun K hK => ?_) (AllReadyH.nil)
            go_simp
            go_at_call 17
            refine (HC1.out V39 hH39.1).mono ?_
            rintro e V40 ⟨rfl, hbx40⟩
            try go_wp2_with fail
            have hN40 : N5 ≤ V39.heap.size := Nat.le_trans hNle hH39.1.size
            have hH40 : Below N5 W5 V40 ∧ V40.cell? ⟨q8, 1, none⟩ = some (.slice (RA k) (RL k) (RC k)) := ⟨hH39.1.trans (hbx40.mono hN40), (hbx40.cell (p := ⟨q8, 1, none⟩) (by show q8 < V39.heap.size; omega)).trans hH39.2⟩
            have f40_11 := Blk.below f39_11 f39_11.lt hbx40
            have f40_12 := Blk.below hB39 hB39.lt hbx40
            refine hK.out _ _ hH40 (fun _ => ?_)
            clear hK K hbx40
            try simp only [Act.put, List.setIfInBounds_toArray, List.set_cons_zero, List.set_cons_succ]
            refine wpAnyH_ready (rs := [7]) (by kernel_rfl) (by simp) ?_
            refine AllReadyH.cons (o := { dst := some 50, op := _, type := _, pos := _, after := _, guard := _ }) rfl (fun K hK => ?_) (AllReadyH.nil)
            go_simp
            go_at_call 17
            refine (HC2.out V40 hH40.1).mono ?_
            rintro e V41 ⟨rfl, hbx41⟩
            try go_wp2_with fail
            have hN41 : N5 ≤ V40.heap.size := Nat.le_trans hNle hH40.1.size
            have hH41 : Below N5 W5 V41 ∧ V41.cell? ⟨q8, 1, none⟩ = some (.slice (RA k) (RL k) (RC k)) := ⟨hH40.1.trans (hbx41.mono hN41), (hbx41.cell (p := ⟨q8, 1, none⟩) (by show q8 < V40.heap.size; omega)).trans hH40.2⟩
            have f41_11 := Blk.below f40_11 f40_11.lt hbx41
            have f41_12 := Blk.below f40_12 f40_12.lt hbx41
            refine hK.out _ _ hH41 (fun _ => ?_)
            clear hK K hbx41
            try simp only [Act.put, List.setIfInBounds_toArray, List.set_cons_zero, List.set_cons_succ]
            refine wpAnyH_ready (rs := [10]) (by kernel_rfl) (by simp) ?_
            refine AllReadyH.cons (o := { dst := none, op := _, type := _, pos := _, after := _, guard := _ }) rfl (fun K hK => ?_) (AllReadyH.nil)
            have hr42 := st_pl f41_11 rfl #[.int .i64 (d1 : Int), .int .i64 (o1' : Int)] rfl (by simp [Value.oneCell'])
            have f42_11 := Blk.setRow f41_11 #[.int .i64 (d1 : Int), .int .i64 (o1' : Int)]
            have f42_12 := blk_setRow_ne f41_12 (show x39 ≠ x29 by have := f41_11.lt; have := f41_12.lt; omega) #[.int .i64 (d1 : Int), .int .i64 (o1' : Int)]
            have hH42 : Below N5 W5 (V41.setRow x29 #[.int .i64 (d1 : Int), .int .i64 (o1' : Int)]) ∧ (V41.setRow x29 #[.int .i64 (d1 : Int), .int .i64 (o1' : Int)]).cell? ⟨q8, 1, none⟩ = some (.slice (RA k) (RL k) (RC k)) := ⟨below_setRowV hH41.1 hN29 _, (cell_setRow_ne (by show q8 ≠ x29; omega) _).trans hH41.2⟩
            refine stepH_store_var x29 _ _ rfl rfl hr42 ?_
            refine hK.out _ _ hH42 (fun _ => ?_)
            clear hK K hr42
            try simp only [Act.put, List.setIfInBounds_toArray, List.set_cons_zero, List.set_cons_succ]
            generalize V41.setRow x29 #[.int .i64 (d1 : Int), .int .i64 (o1' : Int)] = V42 at *
            refine wpAnyH_ready (rs := [11]) (by kernel_rfl) (by simp) ?_
            refine AllReadyH.cons (o := { dst := none, op := _, type := _, pos := _, after := _, guard := _ }) rfl (fun K hK => ?_) (AllReadyH.nil)
            have hr43 := st_pl f42_12 rfl #[.int .i64 (d2 : Int), .int .i64 (o2' : Int)] rfl (by simp [Value.oneCell'])
            have f43_12 := Blk.setRow f42_12 #[.int .i64 (d2 : Int), .int .i64 (o2' : Int)]
            have f43_11 := blk_setRow_ne f42_11 (show x29 ≠ x39 by have := f42_12.lt; have := f42_11.lt; omega) #[.int .i64 (d2 : Int), .int .i64 (o2' : Int)]
            have hH43 : Below N5 W5 (V42.setRow x39 #[.int .i64 (d2 : Int), .int .i64 (o2' : Int)]) ∧ (V42.setRow x39 #[.int .i64 (d2 : Int), .int .i64 (o2' : Int)]).cell? ⟨q8, 1, none⟩ = some (.slice (RA k) (RL k) (RC k)) := ⟨below_setRowV hH42.1 hN39 _, (cell_setRow_ne (by show q8 ≠ x39; omega) _).trans hH42.2⟩
            refine stepH_store_var x39 _ _ rfl rfl hr43 ?_
            refine hK.out _ _ hH43 (fun _ => ?_)
            clear hK K hr43
            try simp only [Act.put, List.setIfInBounds_toArray, List.set_cons_zero, List.set_cons_succ]
            generalize V42.setRow x39 #[.int .i64 (d2 : Int), .int .i64 (o2' : Int)] = V43 at *
            refine wpAnyH_done (by kernel_rfl) ?_ _
            have hfin : FinN N5 W5 x29 x39 d1 o1' d2 o2' V43 := ⟨hH43.1, f43_11, f43_12, hN29, hN39⟩
            exact hRESTo.out.out x29 x39 V43 hfin
        · skip
          have hN44 : N5 ≤ V0.heap.size := Nat.le_trans hNle hV0.1.size
          have hba44 := (Below.refl V0.heap.size V0).alloc (Nat.le_refl _) (.cells #[.int .i64 0, .int .i64 0] 37)
          have hB44 := Blk.new V0 37 #[.int .i64 0, .int .i64 0]
          have hH44 : Below N5 W5 (V0.alloc (.cells #[.int .i64 0, .int .i64 0] 37)) ∧ (V0.alloc (.cells #[.int .i64 0, .int .i64 0] 37)).cell? ⟨q8, 1, none⟩ = some (.slice (RA k) (RL k) (RC k)) := ⟨hV0.1.alloc hN44 _, (hba44.cell (p := ⟨q8, 1, none⟩) (by show q8 < V0.heap.size; omega)).trans hV0.2⟩
          go_simp
          refine hK.out _ _ hH44 (fun _ => ?_)
          clear hK K hba44
          try simp only [Act.put, List.setIfInBounds_toArray, List.set_cons_zero, List.set_cons_succ]
          generalize V0.alloc (.cells #[.int .i64 0, .int .i64 0] 37) = V44 at *
          generalize V0.heap.size = x44 at *
          refine wpAnyH_ready (rs := [1, 8]) (by kernel_rfl) (by simp) ?_
          refine AllReadyH.cons (o := { dst := some 44, op := _, type := _, pos := _, after := _, guard := _ }) rfl (fun K hK => ?_) (AllReadyH.cons (o := { dst := some 11, op := _, type := _, pos := _, after := _, guard := _ }) rfl (fun K hK => ?_) (AllReadyH.nil))
          · skip
            go_simp
            go_at_call 17
            refine (HC1.out V44 hH44.1).mono ?_
            rintro e V45 ⟨rfl, hbx45⟩
            try go_wp2_with fail
            have hN45 : N5 ≤ V44.heap.size := Nat.le_trans hNle hH44.1.size
            have hH45 : Below N5 W5 V45 ∧ V45.cell? ⟨q8, 1, none⟩ = some (.slice (RA k) (RL k) (RC k)) := ⟨hH44.1.trans (hbx45.mono hN45), (hbx45.cell (p := ⟨q8, 1, none⟩) (by show q8 < V44.heap.size; omega)).trans hH44.2⟩
            have f45_12 := Blk.below hB44 hB44.lt hbx45
            refine hK.out _ _ hH45 (fun _ => ?_)
            clear hK K hbx45
            try simp only [Act.put, List.setIfInBounds_toArray, List.set_cons_zero, List.set_cons_succ]
            refine wpAnyH_ready (rs := [7, 8]) (by kernel_rfl) (by simp) ?_
            refine AllReadyH.cons (o := { dst := some 50, op := _, type := _, pos := _, after := _, guard := _ }) rfl (fun K hK => ?_) (AllReadyH.cons (o := { dst := some 11, op := _, type := _, pos := _, after := _, guard := _ }) rfl (fun K hK => ?_) (AllReadyH.nil))
            · skip
              go_simp
              go_at_call 17
              refine (HC2.out V45 hH45.1).mono ?_
              rintro e V46 ⟨rfl, hbx46⟩
              try go_wp2_with fail
              have hN46 : N5 ≤ V45.heap.size := Nat.le_trans hNle hH45.1.size
              have hH46 : Below N5 W5 V46 ∧ V46.cell? ⟨q8, 1, none⟩ = some (.slice (RA k) (RL k) (RC k)) := ⟨hH45.1.trans (hbx46.mono hN46), (hbx46.cell (p := ⟨q8, 1, none⟩) (by show q8 < V45.heap.size; omega)).trans hH45.2⟩
              have f46_12 := Blk.below f45_12 f45_12.lt hbx46
              refine hK.out _ _ hH46 (fun _ => ?_)
              clear hK K hbx46
              try simp only [Act.put, List.setIfInBounds_toArray, List.set_cons_zero, List.set_cons_succ]
              refine wpAnyH_ready (rs := [8]) (by kernel_rfl) (by simp) ?_
              refine AllReadyH.cons (o := { dst := some 11, op := _, type := _, pos := _, after := _, guard := _ }) rfl (fun K hK => ?_) (AllReadyH.nil)
              have hN47 : N5 ≤ V46.heap.size := Nat.le_trans hNle hH46.1.size
              have hba47 := (Below.refl V46.heap.size V46).alloc (Nat.le_refl _) (.cells #[.int .i64 0, .int .i64 0] 37)
              have hB47 := Blk.new V46 37 #[.int .i64 0, .int .i64 0]
              have hH47 : Below N5 W5 (V46.alloc (.cells #[.int .i64 0, .int .i64 0] 37)) ∧ (V46.alloc (.cells #[.int .i64 0, .int .i64 0] 37)).cell? ⟨q8, 1, none⟩ = some (.slice (RA k) (RL k) (RC k)) := ⟨hH46.1.alloc hN47 _, (hba47.cell (p := ⟨q8, 1, none⟩) (by show q8 < V46.heap.size; omega)).trans hH46.2⟩
              have hlt47_12 : x44 < V46.heap.size := f46_12.lt
              have f47_12 := Blk.below f46_12 f46_12.lt hba47
              go_simp
              refine hK.out _ _ hH47 (fun _ => ?_)
              clear hK K hba47
              try simp only [Act.put, List.setIfInBounds_toArray, List.set_cons_zero, List.set_cons_succ]
              generalize V46.alloc (.cells #[.int .i64 0, .int .i64 0] 37) = V47 at *
              generalize V46.heap.size = x47 at *
              refine wpAnyH_ready (rs := [10]) (by kernel_rfl) (by simp) ?_
              refine AllReadyH.cons (o := { dst := none, op := _, type := _, pos := _, after := _, guard := _ }) rfl (fun K hK => ?_) (AllReadyH.nil)
              have hr48 := st_pl hB47 rfl #[.int .i64 (d1 : Int), .int .i64 (o1' : Int)] rfl (by simp [Value.oneCell'])
              have f48_11 := Blk.setRow hB47 #[.int .i64 (d1 : Int), .int .i64 (o1' : Int)]
              have f48_12 := blk_setRow_ne f47_12 (show x44 ≠ x47 by have := hB47.lt; have := f47_12.lt; omega) #[.int .i64 (d1 : Int), .int .i64 (o1' : Int)]
              have hH48 : Below N5 W5 (V47.setRow x47 #[.int .i64 (d1 : Int), .int .i64 (o1' : Int)]) ∧ (V47.setRow x47 #[.int .i64 (d1 : Int), .int .i64 (o1' : Int)]).cell? ⟨q8, 1, none⟩ = some (.slice (RA k) (RL k) (RC k)) := ⟨below_setRowV hH47.1 hN47 _, (cell_setRow_ne (by show q8 ≠ x47; omega) _).trans hH47.2⟩
              refine stepH_store_var x47 _ _ rfl rfl hr48 ?_
              refine hK.out _ _ hH48 (fun _ => ?_)
              clear hK K hr48
              try simp only [Act.put, List.setIfInBounds_toArray, List.set_cons_zero, List.set_cons_succ]
              generalize V47.setRow x47 #[.int .i64 (d1 : Int), .int .i64 (o1' : Int)] = V48 at *
              refine wpAnyH_ready (rs := [11]) (by kernel_rfl) (by simp) ?_
              refine AllReadyH.cons (o := { dst := none, op := _, type := _, pos := _, after := _, guard := _ }) rfl (fun K hK => ?_) (AllReadyH.nil)
              have hr49 := st_pl f48_12 rfl #[.int .i64 (d2 : Int), .int .i64 (o2' : Int)] rfl (by simp [Value.oneCell'])
              have f49_12 := Blk.setRow f48_12 #[.int .i64 (d2 : Int), .int .i64 (o2' : Int)]
              have f49_11 := blk_setRow_ne f48_11 (show x47 ≠ x44 by have := f48_12.lt; have := f48_11.lt; omega) #[.int .i64 (d2 : Int), .int .i64 (o2' : Int)]
              have hH49 : Below N5 W5 (V48.setRow x44 #[.int .i64 (d2 : Int), .int .i64 (o2' : Int)]) ∧ (V48.setRow x44 #[.int .i64 (d2 : Int), .int .i64 (o2' : Int)]).cell? ⟨q8, 1, none⟩ = some (.slice (RA k) (RL k) (RC k)) := ⟨below_setRowV hH48.1 hN44 _, (cell_setRow_ne (by show q8 ≠ x44; omega) _).trans hH48.2⟩
              refine stepH_store_var x44 _ _ rfl rfl hr49 ?_
              refine hK.out _ _ hH49 (fun _ => ?_)
              clear hK K hr49
              try simp only [Act.put, List.setIfInBounds_toArray, List.set_cons_zero, List.set_cons_succ]
              generalize V48.setRow x44 #[.int .i64 (d2 : Int), .int .i64 (o2' : Int)] = V49 at *
              refine wpAnyH_done (by kernel_rfl) ?_ _
              have hfin : FinN N5 W5 x47 x44 d1 o1' d2 o2' V49 := ⟨hH49.1, f49_11, f49_12, hN47, hN44⟩
              exact hRESTo.out.out x47 x44 V49 hfin
            · skip
              have hN50 : N5 ≤ V45.heap.size := Nat.le_trans hNle hH45.1.size
              have hba50 := (Below.refl V45.heap.size V45).alloc (Nat.le_refl _) (.cells #[.int .i64 0, .int .i64 0] 37)
              have hB50 := Blk.new V45 37 #[.int .i64 0, .int .i64 0]
              have hH50 : Below N5 W5 (V45.alloc (.cells #[.int .i64 0, .int .i64 0] 37)) ∧ (V45.alloc (.cells #[.int .i64 0, .int .i64 0] 37)).cell? ⟨q8, 1, none⟩ = some (.slice (RA k) (RL k) (RC k)) := ⟨hH45.1.alloc hN50 _, (hba50.cell (p := ⟨q8, 1, none⟩) (by show q8 < V45.heap.size; omega)).trans hH45.2⟩
              have hlt50_12 : x44 < V45.heap.size := f45_12.lt
              have f50_12 := Blk.below f45_12 f45_12.lt hba50
              go_simp
              refine hK.out _ _ hH50 (fun _ => ?_)
              clear hK K hba50
              try simp only [Act.put, List.setIfInBounds_toArray, List.set_cons_zero, List.set_cons_succ]
              generalize V45.alloc (.cells #[.int .i64 0, .int .i64 0] 37) = V50 at *
              generalize V45.heap.size = x50 at *
              refine wpAnyH_ready (rs := [7]) (by kernel_rfl) (by simp) ?_
              refine AllReadyH.cons (o := { dst := some 50, op := _, type := _, pos := _, after := _, guard := _ }) rfl (fun K hK => ?_) (AllReadyH.nil)
              go_simp
              go_at_call 17
              refine (HC2.out V50 hH50.1).mono ?_
              rintro e V51 ⟨rfl, hbx51⟩
              try go_wp2_with fail
              have hN51 : N5 ≤ V50.heap.size := Nat.le_trans hNle hH50.1.size
              have hH51 : Below N5 W5 V51 ∧ V51.cell? ⟨q8, 1, none⟩ = some (.slice (RA k) (RL k) (RC k)) := ⟨hH50.1.trans (hbx51.mono hN51), (hbx51.cell (p := ⟨q8, 1, none⟩) (by show q8 < V50.heap.size; omega)).trans hH50.2⟩
              have f51_12 := Blk.below f50_12 f50_12.lt hbx51
              have f51_11 := Blk.below hB50 hB50.lt hbx51
              refine hK.out _ _ hH51 (fun _ => ?_)
              clear hK K hbx51
              try simp only [Act.put, List.setIfInBounds_toArray, List.set_cons_zero, List.set_cons_succ]
              refine wpAnyH_ready (rs := [10]) (by kernel_rfl) (by simp) ?_
              refine AllReadyH.cons (o := { dst := none, op := _, type := _, pos := _, after := _, guard := _ }) rfl (fun K hK => ?_) (AllReadyH.nil)
              have hr52 := st_pl f51_11 rfl #[.int .i64 (d1 : Int), .int .i64 (o1' : Int)] rfl (by simp [Value.oneCell'])
              have f52_11 := Blk.setRow f51_11 #[.int .i64 (d1 : Int), .int .i64 (o1' : Int)]
              have f52_12 := blk_setRow_ne f51_12 (show x44 ≠ x50 by have := f51_11.lt; have := f51_12.lt; omega) #[.int .i64 (d1 : Int), .int .i64 (o1' : Int)]
              have hH52 : Below N5 W5 (V51.setRow x50 #[.int .i64 (d1 : Int), .int .i64 (o1' : Int)]) ∧ (V51.setRow x50 #[.int .i64 (d1 : Int), .int .i64 (o1' : Int)]).cell? ⟨q8, 1, none⟩ = some (.slice (RA k) (RL k) (RC k)) := ⟨below_setRowV hH51.1 hN50 _, (cell_setRow_ne (by show q8 ≠ x50; omega) _).trans hH51.2⟩
              refine stepH_store_var x50 _ _ rfl rfl hr52 ?_
              refine hK.out _ _ hH52 (fun _ => ?_)
              clear hK K hr52
              try simp only [Act.put, List.setIfInBounds_toArray, List.set_cons_zero, List.set_cons_succ]
              generalize V51.setRow x50 #[.int .i64 (d1 : Int), .int .i64 (o1' : Int)] = V52 at *
              refine wpAnyH_ready (rs := [11]) (by kernel_rfl) (by simp) ?_
              refine AllReadyH.cons (o := { dst := none, op := _, type := _, pos := _, after := _, guard := _ }) rfl (fun K hK => ?_) (AllReadyH.nil)
              have hr53 := st_pl f52_12 rfl #[.int .i64 (d2 : Int), .int .i64 (o2' : Int)] rfl (by simp [Value.oneCell'])
              have f53_12 := Blk.setRow f52_12 #[.int .i64 (d2 : Int), .int .i64 (o2' : Int)]
              have f53_11 := blk_setRow_ne f52_11 (show x50 ≠ x44 by have := f52_12.lt; have := f52_11.lt; omega) #[.int .i64 (d2 : Int), .int .i64 (o2' : Int)]
              have hH53 : Below N5 W5 (V52.setRow x44 #[.int .i64 (d2 : Int), .int .i64 (o2' : Int)]) ∧ (V52.setRow x44 #[.int .i64 (d2 : Int), .int .i64 (o2' : Int)]).cell? ⟨q8, 1, none⟩ = some (.slice (RA k) (RL k) (RC k)) := ⟨below_setRowV hH52.1 hN44 _, (cell_setRow_ne (by show q8 ≠ x44; omega) _).trans hH52.2⟩
              refine stepH_store_var x44 _ _ rfl rfl hr53 ?_
              refine hK.out _ _ hH53 (fun _ => ?_)
              clear hK K hr53
              try simp only [Act.put, List.setIfInBounds_toArray, List.set_cons_zero, List.set_cons_succ]
              generalize V52.setRow x44 #[.int .i64 (d2 : Int), .int .i64 (o2' : Int)] = V53 at *
              refine wpAnyH_done (by kernel_rfl) ?_ _
              have hfin : FinN N5 W5 x50 x44 d1 o1' d2 o2' V53 := ⟨hH53.1, f53_11, f53_12, hN50, hN44⟩
              exact hRESTo.out.out x50 x44 V53 hfin
          · skip
            have hN54 : N5 ≤ V44.heap.size := Nat.le_trans hNle hH44.1.size
            have hba54 := (Below.refl V44.heap.size V44).alloc (Nat.le_refl _) (.cells #[.int .i64 0, .int .i64 0] 37)
            have hB54 := Blk.new V44 37 #[.int .i64 0, .int .i64 0]
            have hH54 : Below N5 W5 (V44.alloc (.cells #[.int .i64 0, .int .i64 0] 37)) ∧ (V44.alloc (.cells #[.int .i64 0, .int .i64 0] 37)).cell? ⟨q8, 1, none⟩ = some (.slice (RA k) (RL k) (RC k)) := ⟨hH44.1.alloc hN54 _, (hba54.cell (p := ⟨q8, 1, none⟩) (by show q8 < V44.heap.size; omega)).trans hH44.2⟩
            have hlt54_12 : x44 < V44.heap.size := hB44.lt
            have f54_12 := Blk.below hB44 hB44.lt hba54
            go_simp
            refine hK.out _ _ hH54 (fun _ => ?_)
            clear hK K hba54
            try simp only [Act.put, List.setIfInBounds_toArray, List.set_cons_zero, List.set_cons_succ]
            generalize V44.alloc (.cells #[.int .i64 0, .int .i64 0] 37) = V54 at *
            generalize V44.heap.size = x54 at *
            refine wpAnyH_ready (rs := [1]) (by kernel_rfl) (by simp) ?_
            refine AllReadyH.cons (o := { dst := some 44, op := _, type := _, pos := _, after := _, guard := _ }) rfl (fun K hK => ?_) (AllReadyH.nil)
            go_simp
            go_at_call 17
            refine (HC1.out V54 hH54.1).mono ?_
            rintro e V55 ⟨rfl, hbx55⟩
            try go_wp2_with fail
            have hN55 : N5 ≤ V54.heap.size := Nat.le_trans hNle hH54.1.size
            have hH55 : Below N5 W5 V55 ∧ V55.cell? ⟨q8, 1, none⟩ = some (.slice (RA k) (RL k) (RC k)) := ⟨hH54.1.trans (hbx55.mono hN55), (hbx55.cell (p := ⟨q8, 1, none⟩) (by show q8 < V54.heap.size; omega)).trans hH54.2⟩
            have f55_12 := Blk.below f54_12 f54_12.lt hbx55
            have f55_11 := Blk.below hB54 hB54.lt hbx55
            refine hK.out _ _ hH55 (fun _ => ?_)
            clear hK K hbx55
            try simp only [Act.put, List.setIfInBounds_toArray, List.set_cons_zero, List.set_cons_succ]
            refine wpAnyH_ready (rs := [7]) (by kernel_rfl) (by simp) ?_
            refine AllReadyH.cons (o := { dst := some 50, op := _, type := _, pos := _, after := _, guard := _ }) rfl (fun K hK => ?_) (AllReadyH.nil)
            go_simp
            go_at_call 17
            refine (HC2.out V55 hH55.1).mono ?_
            rintro e V56 ⟨rfl, hbx56⟩
            try go_wp2_with fail
            have hN56 : N5 ≤ V55.heap.size := Nat.le_trans hNle hH55.1.size
            have hH56 : Below N5 W5 V56 ∧ V56.cell? ⟨q8, 1, none⟩ = some (.slice (RA k) (RL k) (RC k)) := ⟨hH55.1.trans (hbx56.mono hN56), (hbx56.cell (p := ⟨q8, 1, none⟩) (by show q8 < V55.heap.size; omega)).trans hH55.2⟩
            have f56_12 := Blk.below f55_12 f55_12.lt hbx56
            have f56_11 := Blk.below f55_11 f55_11.lt hbx56
            refine hK.out _ _ hH56 (fun _ => ?_)
            clear hK K hbx56
            try simp only [Act.put, List.setIfInBounds_toArray, List.set_cons_zero, List.set_cons_succ]
            refine wpAnyH_ready (rs := [10]) (by kernel_rfl) (by simp) ?_
            refine AllReadyH.cons (o := { dst := none, op := _, type := _, pos := _, after := _, guard := _ }) rfl (fun K hK => ?_) (AllReadyH.nil)
            have hr57 := st_pl f56_11 rfl #[.int .i64 (d1 : Int), .int .i64 (o1' : Int)] rfl (by simp [Value.oneCell'])
            have f57_11 := Blk.setRow f56_11 #[.int .i64 (d1 : Int), .int .i64 (o1' : Int)]
            have f57_12 := blk_setRow_ne f56_12 (show x44 ≠ x54 by have := f56_11.lt; have := f56_12.lt; omega) #[.int .i64 (d1 : Int), .int .i64 (o1' : Int)]
            have hH57 : Below N5 W5 (V56.setRow x54 #[.int .i64 (d1 : Int), .int .i64 (o1' : Int)]) ∧ (V56.setRow x54 #[.int .i64 (d1 : Int), .int .i64 (o1' : Int)]).cell? ⟨q8, 1, none⟩ = some (.slice (RA k) (RL k) (RC k)) := ⟨below_setRowV hH56.1 hN54 _, (cell_setRow_ne (by show q8 ≠ x54; omega) _).trans hH56.2⟩
            refine stepH_store_var x54 _ _ rfl rfl hr57 ?_
            refine hK.out _ _ hH57 (fun _ => ?_)
            clear hK K hr57
            try simp only [Act.put, List.setIfInBounds_toArray, List.set_cons_zero, List.set_cons_succ]
            generalize V56.setRow x54 #[.int .i64 (d1 : Int), .int .i64 (o1' : Int)] = V57 at *
            refine wpAnyH_ready (rs := [11]) (by kernel_rfl) (by simp) ?_
            refine AllReadyH.cons (o := { dst := none, op := _, type := _, pos := _, after := _, guard := _ }) rfl (fun K hK => ?_) (AllReadyH.nil)
            have hr58 := st_pl f57_12 rfl #[.int .i64 (d2 : Int), .int .i64 (o2' : Int)] rfl (by simp [Value.oneCell'])
            have f58_12 := Blk.setRow f57_12 #[.int .i64 (d2 : Int), .int .i64 (o2' : Int)]
            have f58_11 := blk_setRow_ne f57_11 (show x54 ≠ x44 by have := f57_12.lt; have := f57_11.lt; omega) #[.int .i64 (d2 : Int), .int .i64 (o2' : Int)]
            have hH58 : Below N5 W5 (V57.setRow x44 #[.int .i64 (d2 : Int), .int .i64 (o2' : Int)]) ∧ (V57.setRow x44 #[.int .i64 (d2 : Int), .int .i64 (o2' : Int)]).cell? ⟨q8, 1, none⟩ = some (.slice (RA k) (RL k) (RC k)) := ⟨below_setRowV hH57.1 hN44 _, (cell_setRow_ne (by show q8 ≠ x44; omega) _).trans hH57.2⟩
            refine stepH_store_var x44 _ _ rfl rfl hr58 ?_
            refine hK.out _ _ hH58 (fun _ => ?_)
            clear hK K hr58
            try simp only [Act.put, List.setIfInBounds_toArray, List.set_cons_zero, List.set_cons_succ]
            generalize V57.setRow x44 #[.int .i64 (d2 : Int), .int .i64 (o2' : Int)] = V58 at *
            refine wpAnyH_done (by kernel_rfl) ?_ _
            have hfin : FinN N5 W5 x54 x44 d1 o1' d2 o2' V58 := ⟨hH58.1, f58_11, f58_12, hN54, hN44⟩
            exact hRESTo.out.out x54 x44 V58 hfin
      case z =>
        intro x y W6 hfin
        have hmono := nxt_mono (v := v) (show 1 ≤ S' by omega) HOK.out.qS (RL k)
        rw [HE1.out, HE2.out] at hmono
        obtain ⟨hm1, hm2⟩ := hmono
        dsimp only at hm1 hm2
        have hbel := hfin.bel
        rw [HN5.out] at hbel
        have HS6 := Lib.hid (HS5.out.below hbel)
        have HA6 := Lib.hid (HA5.out.below hbel)
        have HR6 := Lib.hid (HR5.out.below hbel)
        have HK86 := Lib.hid (HK85.out.below HK85.out.lt hbel)
        have HB6 := Lib.hid (HB5.out.trans (hbel.mono HB5.out.size))
        have HFX := Lib.hid hfin.bx
        have HFY := Lib.hid hfin.by_
        have HNX : Hid (¬ Fp x) := fun h => by have := (HS5.out.sub _ h).2; have := hfin.hx; have := HN5.out; omega
        have z80 : W6.cell? ⟨q8, 0, none⟩ = some (.int .i64 (K k)) := HK86.out.cell 0
        have z81 : W6.cell? ⟨q8, 1, none⟩ = some (.slice (RA k) (RL k) (RC k)) := HK86.out.cell 1
        have y0 : W6.cell? ⟨x, 0, none⟩ = some (.int .i64 d1) := HFX.out.cell 0
        have y1 : W6.cell? ⟨x, 1, none⟩ = some (.int .i64 o1') := HFX.out.cell 1
        have x0 : W6.cell? ⟨y, 0, none⟩ = some (.int .i64 d2) := HFY.out.cell 0
        have x1 : W6.cell? ⟨y, 1, none⟩ = some (.int .i64 o2') := HFY.out.cell 1
        have t1 : ¬ (d2 : Int) < (d1 : Int) := by omega
        have HE1v : Hid (vat S' v 1 = (d1, o1')) := (nxt_one (v := v) (show 1 ≤ S' by omega)).symm.trans HE1.out
        clear hfin hbel HS5 HA5 HR5 HK85 HB5 HC1 HC2 z8 hV0 HV00 HVW HE1 HE2 q8l hw1
        have hlenR : (R k).length = RL k := H.out.len hlt
        have HQS := HOK.out.qS
        have HFAR : Hid (0 < RL k → ∀ x o, RA k = some ⟨x, o, none⟩ → ¬ Fp x) := fun h0 x o e h => by
          obtain ⟨b9, o9, e9, hl9, _⟩ := (H.out.row k hlt).row.at_ h0
          rw [e] at e9
          injection e9 with e9
          injection e9 with e9 _ _
          have := (HS6.out.sub x h).1
          have := HBS.out
          omega
        by_cases hd : d1 = d2
        · have t2 : ((d1 : Int) == (d2 : Int)) = true := by rw [beq_iff_eq]; omega
          have t3 : ((o1' : Int) != (o2' : Int)) = false := by have := hm2 hd; rw [bne_eq_false_iff_eq]; omega
          clear hm1 hm2 hd
          by_cases hK0 : K k = 0
          · have k0 : ((K k : Int) != 0) = false := by rw [hK0]; rfl
            clear hK0
            go_wp2_with fail
            refine (NextW_c HS6.out HOK.out hS6 (by rw [← HLL.out]; omega) (RL k : Int) (by simp [Lit.wf, IntKind.min, IntKind.max, IntKind.bits, IntKind.signed]; omega)).mono ?_
            rintro e W7 ⟨rfl, hb7⟩
            obtain ⟨d3, o3, e3⟩ : ∃ d o, nxt S' v (RL k : Int) = (d, o) := ⟨_, _, rfl⟩
            rw [e3]
            have HE3 := Lib.hid e3
            have hba := (Below.refl W7.heap.size W7).alloc (Nat.le_refl _) (.cells #[.int .i64 (d3 : Int), .int .i64 (o3 : Int)] 37)
            have HS7 := Lib.hid ((HS6.out.below hb7).below hba)
            have HA7 := Lib.hid ((HA6.out.below hb7).below hba)
            have HR7 := Lib.hid ((HR6.out.below hb7).below hba)
            have hk87 := HK86.out.below HK86.out.lt hb7
            have HK87 := Lib.hid (hk87.below hk87.lt hba)
            have hB7 := HB6.out.trans (hb7.mono HB6.out.size)
            have HB7 := Lib.hid (hB7.trans (hba.mono hB7.size))
            have HK14 := Lib.hid (Blk.new W7 37 #[.int .i64 (d3 : Int), .int .i64 (o3 : Int)])
            have HN14 : Hid (¬ Fp W7.heap.size) := fun h => by have := (HS6.out.sub _ h).2; have := hb7.size; omega
            have z81' : (W7.alloc (.cells #[.int .i64 (d3 : Int), .int .i64 (o3 : Int)] 37)).cell? ⟨q8, 1, none⟩ = some (.slice (RA k) (RL k) (RC k)) := HK87.out.cell 1
            clear e3 hba hb7 hB7 hk87 z80 z81 y0 y1 x0 x1 HS6 HA6 HR6 HK86 HB6 HFX HFY
            unfold plV plC
            have HRC := Lib.hid (Record_c (c := RC k) HS7.out HOK.out hS6 (by rw [← HLL.out]; omega) HR7.out.row HFAR.out)
            go_wp2_with fail
            generalize W7.alloc (.cells #[.int .i64 (d3 : Int), .int .i64 (o3 : Int)] 37) = V7 at *
            generalize W7.heap.size = q14 at *
            refine HRC.out.mono ?_
            rintro e W8 hq
            obtain ⟨F8, rfl, hk8, hs8, hf8⟩ := hq.use
            have HOK8 := Lib.hid (HOK.out.rec_ (R k))
            have HFL8 : Hid ((recF S' v (R k)).1.flat.length ≤ 4 + 60 * (k + 1)) := rec_flat_le (R k) hFl.out (by rw [hlenR]; exact hlk)
            have HS8 := Lib.hid hs8
            have HB8 := Lib.hid (HB7.out.trans (HS7.out.belowW hk8 HBS.out HB7.out.size))
            have HA8 := Lib.hid (HA7.out.keepF hk8 (fun j hj => HLO.out j hj))
            have HK88 := Lib.hid (hk8.blk HK87.out HN8.out)
            have HK148 := Lib.hid (hk8.blk HK14.out HN14.out)
            clear hq hk8 hs8 hf8 z81' HS7 HA7 HR7 HK87 HB7 HK14 HRC
            by_cases hrec : RL k = 0 ∨ S' < RL k
            · skip
              have er : recF S' v (R k) = (v, 0, 0, 50) := if_pos (by rw [hlenR]; exact hrec)
              rw [er] at HOK8 HFL8 HS8 ⊢
              clear er
              unfold plV plC
              have hba := (Below.refl W8.heap.size W8).alloc (Nat.le_refl _) (.cells #[.int .i64 0, .int .i64 0] 37)
              have HS9 := Lib.hid (HS8.out.below hba)
              have HA9 := Lib.hid (HA8.out.below hba)
              have HB9 := Lib.hid (HB8.out.trans (hba.mono HB8.out.size))
              have hk89 := HK88.out.below HK88.out.lt hba
              have z8 : (W8.alloc (.cells #[.int .i64 0, .int .i64 0] 37)).cell? ⟨q8, 1, none⟩ = some (.slice (RA k) (RL k) (RC k)) := hk89.cell 1
              clear hba hk89 HS8 HA8 HB8 HK88 HK148
              have HRW := Lib.hid (RowW_c HS9.out HOK8.out hS6 (by rw [← HLL.out]; omega))
              by_cases hz : 0 < RL k
              · have c1 : (0 : Int) < (RL k : Int) := by omega
                have c2 : ¬ (RL k : Int) ≤ (S' : Int) := by omega
                clear hrec hz
                go_wp2_with fail
                refine HRW.out.mono ?_
                rintro e W10 ⟨gS, cS, RA2, RC2, rfl, hA2, hb10⟩
                have HA10 := Lib.hid (HA9.out.below hb10)
                have HS10 := Lib.hid (HS9.out.below hb10)
                have HB10 := Lib.hid (HB9.out.trans (hb10.mono HB9.out.size))
                have HA2 := Lib.hid hA2
                clear hA2 hb10 HS9 HA9 HB9 HRW z8
                rw [← HLL.out] at HA2 ⊢
                go_wp2_with fail
                refine (RowsW_c HA2.out.min HA10.out.min).mono ?_
                rintro e _ ⟨rfl, q, rfl⟩
                rw [decide_eq_true (show sameR (l + 1) (vrow v) (l + 1) (vrow v) from ⟨rfl, fun _ _ => rfl⟩)]
                have HS11 := Lib.hid (HS10.out.drewN q)
                have HB11 := Lib.hid (below_drewN HB10.out q)
                clear HS10 HB10 HA10 HA2
                go_wp2_with fail
                go_roundw
                case rel => exact ⟨k + 1, v, F8, by omega, by go_num, HS11, HOK8, HFL8, HB11⟩
                case measure => simp [intOf]; omega
              · have c1 : ¬ (0 : Int) < (RL k : Int) := by omega
                clear hrec hz
                go_wp2_with fail
                refine HRW.out.mono ?_
                rintro e W10 ⟨gS, cS, RA2, RC2, rfl, hA2, hb10⟩
                have HA10 := Lib.hid (HA9.out.below hb10)
                have HS10 := Lib.hid (HS9.out.below hb10)
                have HB10 := Lib.hid (HB9.out.trans (hb10.mono HB9.out.size))
                have HA2 := Lib.hid hA2
                clear hA2 hb10 HS9 HA9 HB9 HRW z8
                rw [← HLL.out] at HA2 ⊢
                go_wp2_with fail
                refine (RowsW_c HA2.out.min HA10.out.min).mono ?_
                rintro e _ ⟨rfl, q, rfl⟩
                rw [decide_eq_true (show sameR (l + 1) (vrow v) (l + 1) (vrow v) from ⟨rfl, fun _ _ => rfl⟩)]
                have HS11 := Lib.hid (HS10.out.drewN q)
                have HB11 := Lib.hid (below_drewN HB10.out q)
                clear HS10 HB10 HA10 HA2
                go_wp2_with fail
                go_roundw
                case rel => exact ⟨k + 1, v, F8, by omega, by go_num, HS11, HOK8, HFL8, HB11⟩
                case measure => simp [intOf]; omega
            · skip
              have er : recF S' v (R k) = (vput S' v (R k), d3, o3, 0) := by
                have e1 : recF S' v (R k) = (vput S' v (R k), (vat S' v (R k).length).1, (vat S' v (R k).length).2, 0) := if_neg (by rw [hlenR]; exact hrec)
                have e2 := HE3.out
                rw [nxt_vat (by omega) (by omega), ← hlenR] at e2
                rw [e1, e2]
              have hdd : (d3 = l ∧ v.q.length + RL k ≤ S') ∨ (d3 = l + 1 ∧ o3 = 0 ∧ ¬ v.q.length + RL k ≤ S') := by
                have e2 := HE3.out
                rw [nxt_vat (by omega) (by omega)] at e2
                unfold vat at e2
                by_cases e : v.q.length + RL k ≤ S'
                · rw [if_pos e] at e2
                  injection e2 with e3 e4
                  exact .inl ⟨by rw [HLL.out]; exact e3.symm, e⟩
                · rw [if_neg e] at e2
                  injection e2 with e3 e4
                  exact .inr ⟨by rw [HLL.out]; exact e3.symm, e4.symm, e⟩
              rw [er] at HOK8 HFL8 HS8 ⊢
              clear er
              unfold plV plC
              have hba := (Below.refl W8.heap.size W8).alloc (Nat.le_refl _) (.cells #[.int .i64 (d3 : Int), .int .i64 (o3 : Int)] 37)
              have HS9 := Lib.hid (HS8.out.below hba)
              have hA9 := HA8.out.below hba
              have HB9 := Lib.hid (HB8.out.trans (hba.mono HB8.out.size))
              have hk89 := HK88.out.below HK88.out.lt hba
              have hk149 := HK148.out.below HK148.out.lt hba
              have hk15 := Blk.new W8 37 #[.int .i64 (d3 : Int), .int .i64 (o3 : Int)]
              have z8 : (W8.alloc (.cells #[.int .i64 (d3 : Int), .int .i64 (o3 : Int)] 37)).cell? ⟨q8, 1, none⟩ = some (.slice (RA k) (RL k) (RC k)) := hk89.cell 1
              have z140 : (W8.alloc (.cells #[.int .i64 (d3 : Int), .int .i64 (o3 : Int)] 37)).cell? ⟨q14, 0, none⟩ = some (.int .i64 d3) := hk149.cell 0
              have z141 : (W8.alloc (.cells #[.int .i64 (d3 : Int), .int .i64 (o3 : Int)] 37)).cell? ⟨q14, 1, none⟩ = some (.int .i64 o3) := hk149.cell 1
              have z150 : (W8.alloc (.cells #[.int .i64 (d3 : Int), .int .i64 (o3 : Int)] 37)).cell? ⟨W8.heap.size, 0, none⟩ = some (.int .i64 d3) := hk15.cell 0
              have z151 : (W8.alloc (.cells #[.int .i64 (d3 : Int), .int .i64 (o3 : Int)] 37)).cell? ⟨W8.heap.size, 1, none⟩ = some (.int .i64 o3) := hk15.cell 1
              obtain ⟨bR, oR, eR, _, zR⟩ := MIn.at_ hA9.min (r := l) (by omega)
              injection eR with eR
              injection eR with eR1 eR2 _
              subst eR1 eR2
              rw [Nat.zero_add] at zR
              rw [show (vrow v l).length = v.q.length by rw [HLL.out, vrow_last]] at zR
              clear hba hk89 hk149 hk15 hA9 HS8 HA8 HB8 HK88 HK148
              generalize v.q.length = L at *
              have ix1 : (0 : Int) ≤ (l : Int) := by omega
              have ix2 : (l : Int) < (l : Int) + 1 := by omega
              have hLS : L ≤ S' := HQS
              have hw2 : IntKind.i64.wrap ((L : Int) + (RL k : Int)) = (L : Int) + (RL k : Int) := IntWalk.i64_in _ (by omega)
              rcases hdd with ⟨hd3, hfit⟩ | ⟨hd3, ho3, hfit⟩
              · have f1 : decide ((L : Int) + (RL k : Int) ≤ (S' : Int)) = true := decide_eq_true (by omega)
                have f2 : ((d3 : Int) == (l : Int)) = true := by rw [beq_iff_eq]; omega
                clear hd3 hfit hrec
                go_wp2_with fail
                refine wp_region_held_drew (S := fun W' => W'.cell? ⟨q8, 1, none⟩ = some (.slice (RA k) (RL k) (RC k)) ∧ W'.cell? ⟨gR, l, none⟩ = some (.slice (RA' l) L (RC' l))) (by kernel_rfl) ?_ (fun hHeld => ?_)
                · go_keep
                refine wpAnyH_take (i := 0) (oi := { dst := some 117, op := _, type := _, pos := _, after := _, guard := _ }) (v := ?_) rfl (by kernel_rfl) (by kernel_rfl) (by kernel_rfl) (fun _ _ _ h => h) (Or.inl ⟨by rfl, ?_⟩) (by assumption) ?_
                rotate_left
                · intro w' hSw
                  try dsimp only at hSw
                  go_simp
                  try with_reducible rfl
                try simp only [Act.put, List.setIfInBounds_toArray, List.set_cons_zero, List.set_cons_succ]
                refine wpAnyH_take (i := 1) (oi := { dst := some 118, op := _, type := _, pos := _, after := _, guard := _ }) (v := ?_) rfl (by kernel_rfl) (by kernel_rfl) (by kernel_rfl) (fun _ _ _ h => h) (Or.inl ⟨by rfl, ?_⟩) (by assumption) ?_
                rotate_left
                · intro w' hSw
                  try dsimp only at hSw
                  go_simp
                  try with_reducible rfl
                try simp only [Act.put, List.setIfInBounds_toArray, List.set_cons_zero, List.set_cons_succ]
                refine wpAnyH_take (i := 2) (oi := { dst := some 119, op := _, type := _, pos := _, after := _, guard := _ }) (v := ?_) rfl (by kernel_rfl) (by kernel_rfl) (by kernel_rfl) (fun _ _ _ h => h) (Or.inl ⟨by rfl, ?_⟩) (by assumption) ?_
                rotate_left
                · intro w' hSw
                  try dsimp only at hSw
                  go_simp
                  try with_reducible rfl
                try simp only [Act.put, List.setIfInBounds_toArray, List.set_cons_zero, List.set_cons_succ]
                refine wpAnyH_take (i := 3) (oi := { dst := some 120, op := _, type := _, pos := _, after := _, guard := _ }) (v := ?_) rfl (by kernel_rfl) (by kernel_rfl) (by kernel_rfl) (fun _ _ _ h => h) (Or.inl ⟨by rfl, ?_⟩) (by assumption) ?_
                rotate_left
                · intro w' hSw
                  try dsimp only at hSw
                  go_simp
                  try with_reducible rfl
                try simp only [Act.put, List.setIfInBounds_toArray, List.set_cons_zero, List.set_cons_succ]
                refine wpAnyH_take (i := 4) (oi := { dst := some 121, op := _, type := _, pos := _, after := _, guard := _ }) (v := ?_) rfl (by kernel_rfl) (by kernel_rfl) (by kernel_rfl) (fun _ _ _ h => h) (Or.inl ⟨by rfl, ?_⟩) (by assumption) ?_
                rotate_left
                · intro w' hSw
                  try dsimp only at hSw
                  go_simp
                  try with_reducible rfl
                try simp only [Act.put, List.setIfInBounds_toArray, List.set_cons_zero, List.set_cons_succ]
                refine wpAnyH_take (i := 5) (oi := { dst := some 122, op := _, type := _, pos := _, after := _, guard := _ }) (v := ?_) rfl (by kernel_rfl) (by kernel_rfl) (by kernel_rfl) (fun _ _ _ h => h) (Or.inl ⟨by rfl, ?_⟩) (by assumption) ?_
                rotate_left
                · intro w' hSw
                  try dsimp only at hSw
                  go_simp
                  try with_reducible rfl
                try simp only [Act.put, List.setIfInBounds_toArray, List.set_cons_zero, List.set_cons_succ]
                refine wpAnyH_take (i := 6) (oi := { dst := some 123, op := _, type := _, pos := _, after := _, guard := _ }) (v := ?_) rfl (by kernel_rfl) (by kernel_rfl) (by kernel_rfl) (fun _ _ _ h => h) (Or.inl ⟨by rfl, ?_⟩) (by assumption) ?_
                rotate_left
                · intro w' hSw
                  try dsimp only at hSw
                  go_simp
                  try with_reducible rfl
                try simp only [Act.put, List.setIfInBounds_toArray, List.set_cons_zero, List.set_cons_succ]
                refine wpAnyH_take (i := 7) (oi := { dst := some 124, op := _, type := _, pos := _, after := _, guard := _ }) (v := ?_) rfl (by kernel_rfl) (by kernel_rfl) (by kernel_rfl) (fun _ _ _ h => h) (Or.inl ⟨by rfl, ?_⟩) (by assumption) ?_
                rotate_left
                · intro w' hSw
                  try dsimp only at hSw
                  go_simp
                  try with_reducible rfl
                try simp only [Act.put, List.setIfInBounds_toArray, List.set_cons_zero, List.set_cons_succ]
                refine wpAnyH_take (i := 8) (oi := { dst := some 125, op := _, type := _, pos := _, after := _, guard := _ }) (v := ?_) rfl (by kernel_rfl) (by kernel_rfl) (by kernel_rfl) (fun _ _ _ h => h) (Or.inl ⟨by rfl, ?_⟩) (by assumption) ?_
                rotate_left
                · intro w' hSw
                  try dsimp only at hSw
                  go_simp
                  try with_reducible rfl
                try simp only [Act.put, List.setIfInBounds_toArray, List.set_cons_zero, List.set_cons_succ]
                refine wpAnyH_take (i := 9) (oi := { dst := some 126, op := _, type := _, pos := _, after := _, guard := _ }) (v := ?_) rfl (by kernel_rfl) (by kernel_rfl) (by kernel_rfl) (fun _ _ _ h => h) (Or.inl ⟨by rfl, ?_⟩) (by assumption) ?_
                rotate_left
                · intro w' hSw
                  try dsimp only at hSw
                  go_simp
                  try with_reducible rfl
                try simp only [Act.put, List.setIfInBounds_toArray, List.set_cons_zero, List.set_cons_succ]
                refine wpAnyH_take (i := 10) (oi := { dst := some 127, op := _, type := _, pos := _, after := _, guard := _ }) (v := ?_) rfl (by kernel_rfl) (by kernel_rfl) (by kernel_rfl) (fun _ _ _ h => h) (Or.inl ⟨by rfl, ?_⟩) (by assumption) ?_
                rotate_left
                · intro w' hSw
                  try dsimp only at hSw
                  go_simp
                  try with_reducible rfl
                try simp only [Act.put, List.setIfInBounds_toArray, List.set_cons_zero, List.set_cons_succ]
                refine wpAnyH_take (i := 11) (oi := { dst := some 17, op := _, type := _, pos := _, after := _, guard := _ }) (v := ?_) rfl (by kernel_rfl) (by kernel_rfl) (by kernel_rfl) (fun _ _ _ h => h) (Or.inl ⟨by rfl, ?_⟩) (by assumption) ?_
                rotate_left
                · intro w' hSw
                  try dsimp only at hSw
                  go_simp
                  try with_reducible rfl
                try simp only [Act.put, List.setIfInBounds_toArray, List.set_cons_zero, List.set_cons_succ]
                refine wpAnyH_done (by kernel_rfl) ?_ _
                go_wp2_with fail
                go_roundw
                case rel => exact ⟨k + 1, _, F8, by omega, by go_num, Lib.hid (HS9.out.drewN 1), HOK8, HFL8, Lib.hid (below_drewN HB9.out 1)⟩
                case measure => simp [intOf]; omega
              · have f1 : decide ((L : Int) + (RL k : Int) ≤ (S' : Int)) = false := decide_eq_false (by omega)
                have f2 : ((d3 : Int) == (l : Int)) = false := by rw [beq_eq_false_iff_ne]; omega
                have f3 : ((o3 : Int) != 0) = false := by rw [ho3]; rfl
                clear hd3 hfit hrec ho3
                go_wp2_with fail
                refine wp_region_held_drew (S := fun W' => W'.cell? ⟨q8, 1, none⟩ = some (.slice (RA k) (RL k) (RC k)) ∧ W'.cell? ⟨gR, l, none⟩ = some (.slice (RA' l) L (RC' l))) (by kernel_rfl) ?_ (fun hHeld => ?_)
                · go_keep
                refine wpAnyH_take (i := 0) (oi := { dst := some 117, op := _, type := _, pos := _, after := _, guard := _ }) (v := ?_) rfl (by kernel_rfl) (by kernel_rfl) (by kernel_rfl) (fun _ _ _ h => h) (Or.inl ⟨by rfl, ?_⟩) (by assumption) ?_
                rotate_left
                · intro w' hSw
                  try dsimp only at hSw
                  go_simp
                  try with_reducible rfl
                try simp only [Act.put, List.setIfInBounds_toArray, List.set_cons_zero, List.set_cons_succ]
                refine wpAnyH_take (i := 1) (oi := { dst := some 118, op := _, type := _, pos := _, after := _, guard := _ }) (v := ?_) rfl (by kernel_rfl) (by kernel_rfl) (by kernel_rfl) (fun _ _ _ h => h) (Or.inl ⟨by rfl, ?_⟩) (by assumption) ?_
                rotate_left
                · intro w' hSw
                  try dsimp only at hSw
                  go_simp
                  try with_reducible rfl
                try simp only [Act.put, List.setIfInBounds_toArray, List.set_cons_zero, List.set_cons_succ]
                refine wpAnyH_take (i := 2) (oi := { dst := some 119, op := _, type := _, pos := _, after := _, guard := _ }) (v := ?_) rfl (by kernel_rfl) (by kernel_rfl) (by kernel_rfl) (fun _ _ _ h => h) (Or.inl ⟨by rfl, ?_⟩) (by assumption) ?_
                rotate_left
                · intro w' hSw
                  try dsimp only at hSw
                  go_simp
                  try with_reducible rfl
                try simp only [Act.put, List.setIfInBounds_toArray, List.set_cons_zero, List.set_cons_succ]
                refine wpAnyH_take (i := 3) (oi := { dst := some 120, op := _, type := _, pos := _, after := _, guard := _ }) (v := ?_) rfl (by kernel_rfl) (by kernel_rfl) (by kernel_rfl) (fun _ _ _ h => h) (Or.inl ⟨by rfl, ?_⟩) (by assumption) ?_
                rotate_left
                · intro w' hSw
                  try dsimp only at hSw
                  go_simp
                  try with_reducible rfl
                try simp only [Act.put, List.setIfInBounds_toArray, List.set_cons_zero, List.set_cons_succ]
                refine wpAnyH_take (i := 4) (oi := { dst := some 121, op := _, type := _, pos := _, after := _, guard := _ }) (v := ?_) rfl (by kernel_rfl) (by kernel_rfl) (by kernel_rfl) (fun _ _ _ h => h) (Or.inl ⟨by rfl, ?_⟩) (by assumption) ?_
                rotate_left
                · intro w' hSw
                  try dsimp only at hSw
                  go_simp
                  try with_reducible rfl
                try simp only [Act.put, List.setIfInBounds_toArray, List.set_cons_zero, List.set_cons_succ]
                refine wpAnyH_take (i := 5) (oi := { dst := some 122, op := _, type := _, pos := _, after := _, guard := _ }) (v := ?_) rfl (by kernel_rfl) (by kernel_rfl) (by kernel_rfl) (fun _ _ _ h => h) (Or.inl ⟨by rfl, ?_⟩) (by assumption) ?_
                rotate_left
                · intro w' hSw
                  try dsimp only at hSw
                  go_simp
                  try with_reducible rfl
                try simp only [Act.put, List.setIfInBounds_toArray, List.set_cons_zero, List.set_cons_succ]
                refine wpAnyH_take (i := 6) (oi := { dst := some 123, op := _, type := _, pos := _, after := _, guard := _ }) (v := ?_) rfl (by kernel_rfl) (by kernel_rfl) (by kernel_rfl) (fun _ _ _ h => h) (Or.inl ⟨by rfl, ?_⟩) (by assumption) ?_
                rotate_left
                · intro w' hSw
                  try dsimp only at hSw
                  go_simp
                  try with_reducible rfl
                try simp only [Act.put, List.setIfInBounds_toArray, List.set_cons_zero, List.set_cons_succ]
                refine wpAnyH_take (i := 7) (oi := { dst := some 124, op := _, type := _, pos := _, after := _, guard := _ }) (v := ?_) rfl (by kernel_rfl) (by kernel_rfl) (by kernel_rfl) (fun _ _ _ h => h) (Or.inl ⟨by rfl, ?_⟩) (by assumption) ?_
                rotate_left
                · intro w' hSw
                  try dsimp only at hSw
                  go_simp
                  try with_reducible rfl
                try simp only [Act.put, List.setIfInBounds_toArray, List.set_cons_zero, List.set_cons_succ]
                refine wpAnyH_take (i := 8) (oi := { dst := some 125, op := _, type := _, pos := _, after := _, guard := _ }) (v := ?_) rfl (by kernel_rfl) (by kernel_rfl) (by kernel_rfl) (fun _ _ _ h => h) (Or.inl ⟨by rfl, ?_⟩) (by assumption) ?_
                rotate_left
                · intro w' hSw
                  try dsimp only at hSw
                  go_simp
                  try with_reducible rfl
                try simp only [Act.put, List.setIfInBounds_toArray, List.set_cons_zero, List.set_cons_succ]
                refine wpAnyH_take (i := 9) (oi := { dst := some 126, op := _, type := _, pos := _, after := _, guard := _ }) (v := ?_) rfl (by kernel_rfl) (by kernel_rfl) (by kernel_rfl) (fun _ _ _ h => h) (Or.inl ⟨by rfl, ?_⟩) (by assumption) ?_
                rotate_left
                · intro w' hSw
                  try dsimp only at hSw
                  go_simp
                  try with_reducible rfl
                try simp only [Act.put, List.setIfInBounds_toArray, List.set_cons_zero, List.set_cons_succ]
                refine wpAnyH_take (i := 10) (oi := { dst := some 127, op := _, type := _, pos := _, after := _, guard := _ }) (v := ?_) rfl (by kernel_rfl) (by kernel_rfl) (by kernel_rfl) (fun _ _ _ h => h) (Or.inl ⟨by rfl, ?_⟩) (by assumption) ?_
                rotate_left
                · intro w' hSw
                  try dsimp only at hSw
                  go_simp
                  try with_reducible rfl
                try simp only [Act.put, List.setIfInBounds_toArray, List.set_cons_zero, List.set_cons_succ]
                refine wpAnyH_take (i := 11) (oi := { dst := some 17, op := _, type := _, pos := _, after := _, guard := _ }) (v := ?_) rfl (by kernel_rfl) (by kernel_rfl) (by kernel_rfl) (fun _ _ _ h => h) (Or.inl ⟨by rfl, ?_⟩) (by assumption) ?_
                rotate_left
                · intro w' hSw
                  try dsimp only at hSw
                  go_simp
                  try with_reducible rfl
                try simp only [Act.put, List.setIfInBounds_toArray, List.set_cons_zero, List.set_cons_succ]
                refine wpAnyH_done (by kernel_rfl) ?_ _
                go_wp2_with fail
                go_roundw
                case rel => exact ⟨k + 1, _, F8, by omega, by go_num, Lib.hid (HS9.out.drewN 1), HOK8, HFL8, Lib.hid (below_drewN HB9.out 1)⟩
                case measure => simp [intOf]; omega
          · have k0 : ((K k : Int) != 0) = true := by rw [bne_iff_ne]; exact hK0
            by_cases hK1 : K k = 1
            · have k1 : ((K k : Int) != 1) = false := by rw [hK1]; rfl
              clear hK0 hK1
              go_wp2_with fail
              refine (NextW_c HS6.out HOK.out hS6 (by rw [← HLL.out]; omega) (RL k : Int) (by simp [Lit.wf, IntKind.min, IntKind.max, IntKind.bits, IntKind.signed]; omega)).mono ?_
              rintro e W7 ⟨rfl, hb7⟩
              obtain ⟨d3, o3, e3⟩ : ∃ d o, nxt S' v (RL k : Int) = (d, o) := ⟨_, _, rfl⟩
              rw [e3]
              have HE3 := Lib.hid e3
              have hba := (Below.refl W7.heap.size W7).alloc (Nat.le_refl _) (.cells #[.int .i64 (d3 : Int), .int .i64 (o3 : Int)] 37)
              have HS7 := Lib.hid ((HS6.out.below hb7).below hba)
              have HA7 := Lib.hid ((HA6.out.below hb7).below hba)
              have HR7 := Lib.hid ((HR6.out.below hb7).below hba)
              have hk87 := HK86.out.below HK86.out.lt hb7
              have HK87 := Lib.hid (hk87.below hk87.lt hba)
              have hB7 := HB6.out.trans (hb7.mono HB6.out.size)
              have HB7 := Lib.hid (hB7.trans (hba.mono hB7.size))
              have HK14 := Lib.hid (Blk.new W7 37 #[.int .i64 (d3 : Int), .int .i64 (o3 : Int)])
              have HN14 : Hid (¬ Fp W7.heap.size) := fun h => by have := (HS6.out.sub _ h).2; have := hb7.size; omega
              have z81' : (W7.alloc (.cells #[.int .i64 (d3 : Int), .int .i64 (o3 : Int)] 37)).cell? ⟨q8, 1, none⟩ = some (.slice (RA k) (RL k) (RC k)) := HK87.out.cell 1
              clear e3 hba hb7 hB7 hk87 z80 z81 y0 y1 x0 x1 HS6 HA6 HR6 HK86 HB6 HFX HFY
              unfold plV plC
              have HRC := Lib.hid (Record_c (c := RC k) HS7.out HOK.out hS6 (by rw [← HLL.out]; omega) HR7.out.row HFAR.out)
              go_wp2_with fail
              generalize W7.alloc (.cells #[.int .i64 (d3 : Int), .int .i64 (o3 : Int)] 37) = V7 at *
              generalize W7.heap.size = q14 at *
              refine HRC.out.mono ?_
              rintro e W8 hq
              obtain ⟨F8, rfl, hk8, hs8, hf8⟩ := hq.use
              have HOK8 := Lib.hid (HOK.out.rec_ (R k))
              have HFL8 : Hid ((recF S' v (R k)).1.flat.length ≤ 4 + 60 * (k + 1)) := rec_flat_le (R k) hFl.out (by rw [hlenR]; exact hlk)
              have HS8 := Lib.hid hs8
              have HB8 := Lib.hid (HB7.out.trans (HS7.out.belowW hk8 HBS.out HB7.out.size))
              have HA8 := Lib.hid (HA7.out.keepF hk8 (fun j hj => HLO.out j hj))
              have HK88 := Lib.hid (hk8.blk HK87.out HN8.out)
              have HK148 := Lib.hid (hk8.blk HK14.out HN14.out)
              clear hq hk8 hs8 hf8 z81' HS7 HA7 HR7 HK87 HB7 HK14 HRC
              by_cases hrec : RL k = 0 ∨ S' < RL k
              · skip
                have er : recF S' v (R k) = (v, 0, 0, 50) := if_pos (by rw [hlenR]; exact hrec)
                rw [er] at HOK8 HFL8 HS8 ⊢
                clear er
                unfold plV plC
                have hba := (Below.refl W8.heap.size W8).alloc (Nat.le_refl _) (.cells #[.int .i64 0, .int .i64 0] 37)
                have HS9 := Lib.hid (HS8.out.below hba)
                have HA9 := Lib.hid (HA8.out.below hba)
                have HB9 := Lib.hid (HB8.out.trans (hba.mono HB8.out.size))
                have hk89 := HK88.out.below HK88.out.lt hba
                have z8 : (W8.alloc (.cells #[.int .i64 0, .int .i64 0] 37)).cell? ⟨q8, 1, none⟩ = some (.slice (RA k) (RL k) (RC k)) := hk89.cell 1
                clear hba hk89 HS8 HA8 HB8 HK88 HK148
                have HRW := Lib.hid (RowW_c HS9.out HOK8.out hS6 (by rw [← HLL.out]; omega))
                by_cases hz : 0 < RL k
                · have c1 : (0 : Int) < (RL k : Int) := by omega
                  have c2 : ¬ (RL k : Int) ≤ (S' : Int) := by omega
                  clear hrec hz
                  go_wp2_with fail
                  refine HRW.out.mono ?_
                  rintro e W10 ⟨gS, cS, RA2, RC2, rfl, hA2, hb10⟩
                  have HA10 := Lib.hid (HA9.out.below hb10)
                  have HS10 := Lib.hid (HS9.out.below hb10)
                  have HB10 := Lib.hid (HB9.out.trans (hb10.mono HB9.out.size))
                  have HA2 := Lib.hid hA2
                  clear hA2 hb10 HS9 HA9 HB9 HRW z8
                  rw [← HLL.out] at HA2 ⊢
                  go_wp2_with fail
                  refine (RowsW_c HA2.out.min HA10.out.min).mono ?_
                  rintro e _ ⟨rfl, q, rfl⟩
                  rw [decide_eq_true (show sameR (l + 1) (vrow v) (l + 1) (vrow v) from ⟨rfl, fun _ _ => rfl⟩)]
                  have HS11 := Lib.hid (HS10.out.drewN q)
                  have HB11 := Lib.hid (below_drewN HB10.out q)
                  clear HS10 HB10 HA10 HA2
                  go_wp2_with fail
                  go_roundw
                  case rel => exact ⟨k + 1, v, F8, by omega, by go_num, HS11, HOK8, HFL8, HB11⟩
                  case measure => simp [intOf]; omega
                · have c1 : ¬ (0 : Int) < (RL k : Int) := by omega
                  clear hrec hz
                  go_wp2_with fail
                  refine HRW.out.mono ?_
                  rintro e W10 ⟨gS, cS, RA2, RC2, rfl, hA2, hb10⟩
                  have HA10 := Lib.hid (HA9.out.below hb10)
                  have HS10 := Lib.hid (HS9.out.below hb10)
                  have HB10 := Lib.hid (HB9.out.trans (hb10.mono HB9.out.size))
                  have HA2 := Lib.hid hA2
                  clear hA2 hb10 HS9 HA9 HB9 HRW z8
                  rw [← HLL.out] at HA2 ⊢
                  go_wp2_with fail
                  refine (RowsW_c HA2.out.min HA10.out.min).mono ?_
                  rintro e _ ⟨rfl, q, rfl⟩
                  rw [decide_eq_true (show sameR (l + 1) (vrow v) (l + 1) (vrow v) from ⟨rfl, fun _ _ => rfl⟩)]
                  have HS11 := Lib.hid (HS10.out.drewN q)
                  have HB11 := Lib.hid (below_drewN HB10.out q)
                  clear HS10 HB10 HA10 HA2
                  go_wp2_with fail
                  go_roundw
                  case rel => exact ⟨k + 1, v, F8, by omega, by go_num, HS11, HOK8, HFL8, HB11⟩
                  case measure => simp [intOf]; omega
              · skip
                have er : recF S' v (R k) = (vput S' v (R k), d3, o3, 0) := by
                  have e1 : recF S' v (R k) = (vput S' v (R k), (vat S' v (R k).length).1, (vat S' v (R k).length).2, 0) := if_neg (by rw [hlenR]; exact hrec)
                  have e2 := HE3.out
                  rw [nxt_vat (by omega) (by omega), ← hlenR] at e2
                  rw [e1, e2]
                have hdd : (d3 = l ∧ v.q.length + RL k ≤ S') ∨ (d3 = l + 1 ∧ o3 = 0 ∧ ¬ v.q.length + RL k ≤ S') := by
                  have e2 := HE3.out
                  rw [nxt_vat (by omega) (by omega)] at e2
                  unfold vat at e2
                  by_cases e : v.q.length + RL k ≤ S'
                  · rw [if_pos e] at e2
                    injection e2 with e3 e4
                    exact .inl ⟨by rw [HLL.out]; exact e3.symm, e⟩
                  · rw [if_neg e] at e2
                    injection e2 with e3 e4
                    exact .inr ⟨by rw [HLL.out]; exact e3.symm, e4.symm, e⟩
                rw [er] at HOK8 HFL8 HS8 ⊢
                clear er
                unfold plV plC
                have hba := (Below.refl W8.heap.size W8).alloc (Nat.le_refl _) (.cells #[.int .i64 (d3 : Int), .int .i64 (o3 : Int)] 37)
                have HS9 := Lib.hid (HS8.out.below hba)
                have hA9 := HA8.out.below hba
                have HB9 := Lib.hid (HB8.out.trans (hba.mono HB8.out.size))
                have hk89 := HK88.out.below HK88.out.lt hba
                have hk149 := HK148.out.below HK148.out.lt hba
                have hk15 := Blk.new W8 37 #[.int .i64 (d3 : Int), .int .i64 (o3 : Int)]
                have z8 : (W8.alloc (.cells #[.int .i64 (d3 : Int), .int .i64 (o3 : Int)] 37)).cell? ⟨q8, 1, none⟩ = some (.slice (RA k) (RL k) (RC k)) := hk89.cell 1
                have z140 : (W8.alloc (.cells #[.int .i64 (d3 : Int), .int .i64 (o3 : Int)] 37)).cell? ⟨q14, 0, none⟩ = some (.int .i64 d3) := hk149.cell 0
                have z141 : (W8.alloc (.cells #[.int .i64 (d3 : Int), .int .i64 (o3 : Int)] 37)).cell? ⟨q14, 1, none⟩ = some (.int .i64 o3) := hk149.cell 1
                have z150 : (W8.alloc (.cells #[.int .i64 (d3 : Int), .int .i64 (o3 : Int)] 37)).cell? ⟨W8.heap.size, 0, none⟩ = some (.int .i64 d3) := hk15.cell 0
                have z151 : (W8.alloc (.cells #[.int .i64 (d3 : Int), .int .i64 (o3 : Int)] 37)).cell? ⟨W8.heap.size, 1, none⟩ = some (.int .i64 o3) := hk15.cell 1
                obtain ⟨bR, oR, eR, _, zR⟩ := MIn.at_ hA9.min (r := l) (by omega)
                injection eR with eR
                injection eR with eR1 eR2 _
                subst eR1 eR2
                rw [Nat.zero_add] at zR
                rw [show (vrow v l).length = v.q.length by rw [HLL.out, vrow_last]] at zR
                clear hba hk89 hk149 hk15 hA9 HS8 HA8 HB8 HK88 HK148
                generalize v.q.length = L at *
                have ix1 : (0 : Int) ≤ (l : Int) := by omega
                have ix2 : (l : Int) < (l : Int) + 1 := by omega
                have hLS : L ≤ S' := HQS
                have hw2 : IntKind.i64.wrap ((L : Int) + (RL k : Int)) = (L : Int) + (RL k : Int) := IntWalk.i64_in _ (by omega)
                rcases hdd with ⟨hd3, hfit⟩ | ⟨hd3, ho3, hfit⟩
                · have f1 : decide ((L : Int) + (RL k : Int) ≤ (S' : Int)) = true := decide_eq_true (by omega)
                  have f2 : ((d3 : Int) == (l : Int)) = true := by rw [beq_iff_eq]; omega
                  clear hd3 hfit hrec
                  go_wp2_with fail
                  refine wp_region_held_drew (S := fun W' => W'.cell? ⟨q8, 1, none⟩ = some (.slice (RA k) (RL k) (RC k)) ∧ W'.cell? ⟨gR, l, none⟩ = some (.slice (RA' l) L (RC' l))) (by kernel_rfl) ?_ (fun hHeld => ?_)
                  · go_keep
                  refine wpAnyH_take (i := 0) (oi := { dst := some 117, op := _, type := _, pos := _, after := _, guard := _ }) (v := ?_) rfl (by kernel_rfl) (by kernel_rfl) (by kernel_rfl) (fun _ _ _ h => h) (Or.inl ⟨by rfl, ?_⟩) (by assumption) ?_
                  rotate_left
                  · intro w' hSw
                    try dsimp only at hSw
                    go_simp
                    try with_reducible rfl
                  try simp only [Act.put, List.setIfInBounds_toArray, List.set_cons_zero, List.set_cons_succ]
                  refine wpAnyH_take (i := 1) (oi := { dst := some 118, op := _, type := _, pos := _, after := _, guard := _ }) (v := ?_) rfl (by kernel_rfl) (by kernel_rfl) (by kernel_rfl) (fun _ _ _ h => h) (Or.inl ⟨by rfl, ?_⟩) (by assumption) ?_
                  rotate_left
                  · intro w' hSw
                    try dsimp only at hSw
                    go_simp
                    try with_reducible rfl
                  try simp only [Act.put, List.setIfInBounds_toArray, List.set_cons_zero, List.set_cons_succ]
                  refine wpAnyH_take (i := 2) (oi := { dst := some 119, op := _, type := _, pos := _, after := _, guard := _ }) (v := ?_) rfl (by kernel_rfl) (by kernel_rfl) (by kernel_rfl) (fun _ _ _ h => h) (Or.inl ⟨by rfl, ?_⟩) (by assumption) ?_
                  rotate_left
                  · intro w' hSw
                    try dsimp only at hSw
                    go_simp
                    try with_reducible rfl
                  try simp only [Act.put, List.setIfInBounds_toArray, List.set_cons_zero, List.set_cons_succ]
                  refine wpAnyH_take (i := 3) (oi := { dst := some 120, op := _, type := _, pos := _, after := _, guard := _ }) (v := ?_) rfl (by kernel_rfl) (by kernel_rfl) (by kernel_rfl) (fun _ _ _ h => h) (Or.inl ⟨by rfl, ?_⟩) (by assumption) ?_
                  rotate_left
                  · intro w' hSw
                    try dsimp only at hSw
                    go_simp
                    try with_reducible rfl
                  try simp only [Act.put, List.setIfInBounds_toArray, List.set_cons_zero, List.set_cons_succ]
                  refine wpAnyH_take (i := 4) (oi := { dst := some 121, op := _, type := _, pos := _, after := _, guard := _ }) (v := ?_) rfl (by kernel_rfl) (by kernel_rfl) (by kernel_rfl) (fun _ _ _ h => h) (Or.inl ⟨by rfl, ?_⟩) (by assumption) ?_
                  rotate_left
                  · intro w' hSw
                    try dsimp only at hSw
                    go_simp
                    try with_reducible rfl
                  try simp only [Act.put, List.setIfInBounds_toArray, List.set_cons_zero, List.set_cons_succ]
                  refine wpAnyH_take (i := 5) (oi := { dst := some 122, op := _, type := _, pos := _, after := _, guard := _ }) (v := ?_) rfl (by kernel_rfl) (by kernel_rfl) (by kernel_rfl) (fun _ _ _ h => h) (Or.inl ⟨by rfl, ?_⟩) (by assumption) ?_
                  rotate_left
                  · intro w' hSw
                    try dsimp only at hSw
                    go_simp
                    try with_reducible rfl
                  try simp only [Act.put, List.setIfInBounds_toArray, List.set_cons_zero, List.set_cons_succ]
                  refine wpAnyH_take (i := 6) (oi := { dst := some 123, op := _, type := _, pos := _, after := _, guard := _ }) (v := ?_) rfl (by kernel_rfl) (by kernel_rfl) (by kernel_rfl) (fun _ _ _ h => h) (Or.inl ⟨by rfl, ?_⟩) (by assumption) ?_
                  rotate_left
                  · intro w' hSw
                    try dsimp only at hSw
                    go_simp
                    try with_reducible rfl
                  try simp only [Act.put, List.setIfInBounds_toArray, List.set_cons_zero, List.set_cons_succ]
                  refine wpAnyH_take (i := 7) (oi := { dst := some 124, op := _, type := _, pos := _, after := _, guard := _ }) (v := ?_) rfl (by kernel_rfl) (by kernel_rfl) (by kernel_rfl) (fun _ _ _ h => h) (Or.inl ⟨by rfl, ?_⟩) (by assumption) ?_
                  rotate_left
                  · intro w' hSw
                    try dsimp only at hSw
                    go_simp
                    try with_reducible rfl
                  try simp only [Act.put, List.setIfInBounds_toArray, List.set_cons_zero, List.set_cons_succ]
                  refine wpAnyH_take (i := 8) (oi := { dst := some 125, op := _, type := _, pos := _, after := _, guard := _ }) (v := ?_) rfl (by kernel_rfl) (by kernel_rfl) (by kernel_rfl) (fun _ _ _ h => h) (Or.inl ⟨by rfl, ?_⟩) (by assumption) ?_
                  rotate_left
                  · intro w' hSw
                    try dsimp only at hSw
                    go_simp
                    try with_reducible rfl
                  try simp only [Act.put, List.setIfInBounds_toArray, List.set_cons_zero, List.set_cons_succ]
                  refine wpAnyH_take (i := 9) (oi := { dst := some 126, op := _, type := _, pos := _, after := _, guard := _ }) (v := ?_) rfl (by kernel_rfl) (by kernel_rfl) (by kernel_rfl) (fun _ _ _ h => h) (Or.inl ⟨by rfl, ?_⟩) (by assumption) ?_
                  rotate_left
                  · intro w' hSw
                    try dsimp only at hSw
                    go_simp
                    try with_reducible rfl
                  try simp only [Act.put, List.setIfInBounds_toArray, List.set_cons_zero, List.set_cons_succ]
                  refine wpAnyH_take (i := 10) (oi := { dst := some 127, op := _, type := _, pos := _, after := _, guard := _ }) (v := ?_) rfl (by kernel_rfl) (by kernel_rfl) (by kernel_rfl) (fun _ _ _ h => h) (Or.inl ⟨by rfl, ?_⟩) (by assumption) ?_
                  rotate_left
                  · intro w' hSw
                    try dsimp only at hSw
                    go_simp
                    try with_reducible rfl
                  try simp only [Act.put, List.setIfInBounds_toArray, List.set_cons_zero, List.set_cons_succ]
                  refine wpAnyH_take (i := 11) (oi := { dst := some 17, op := _, type := _, pos := _, after := _, guard := _ }) (v := ?_) rfl (by kernel_rfl) (by kernel_rfl) (by kernel_rfl) (fun _ _ _ h => h) (Or.inl ⟨by rfl, ?_⟩) (by assumption) ?_
                  rotate_left
                  · intro w' hSw
                    try dsimp only at hSw
                    go_simp
                    try with_reducible rfl
                  try simp only [Act.put, List.setIfInBounds_toArray, List.set_cons_zero, List.set_cons_succ]
                  refine wpAnyH_done (by kernel_rfl) ?_ _
                  go_wp2_with fail
                  go_roundw
                  case rel => exact ⟨k + 1, _, F8, by omega, by go_num, Lib.hid (HS9.out.drewN 1), HOK8, HFL8, Lib.hid (below_drewN HB9.out 1)⟩
                  case measure => simp [intOf]; omega
                · have f1 : decide ((L : Int) + (RL k : Int) ≤ (S' : Int)) = false := decide_eq_false (by omega)
                  have f2 : ((d3 : Int) == (l : Int)) = false := by rw [beq_eq_false_iff_ne]; omega
                  have f3 : ((o3 : Int) != 0) = false := by rw [ho3]; rfl
                  clear hd3 hfit hrec ho3
                  go_wp2_with fail
                  refine wp_region_held_drew (S := fun W' => W'.cell? ⟨q8, 1, none⟩ = some (.slice (RA k) (RL k) (RC k)) ∧ W'.cell? ⟨gR, l, none⟩ = some (.slice (RA' l) L (RC' l))) (by kernel_rfl) ?_ (fun hHeld => ?_)
                  · go_keep
                  refine wpAnyH_take (i := 0) (oi := { dst := some 117, op := _, type := _, pos := _, after := _, guard := _ }) (v := ?_) rfl (by kernel_rfl) (by kernel_rfl) (by kernel_rfl) (fun _ _ _ h => h) (Or.inl ⟨by rfl, ?_⟩) (by assumption) ?_
                  rotate_left
                  · intro w' hSw
                    try dsimp only at hSw
                    go_simp
                    try with_reducible rfl
                  try simp only [Act.put, List.setIfInBounds_toArray, List.set_cons_zero, List.set_cons_succ]
                  refine wpAnyH_take (i := 1) (oi := { dst := some 118, op := _, type := _, pos := _, after := _, guard := _ }) (v := ?_) rfl (by kernel_rfl) (by kernel_rfl) (by kernel_rfl) (fun _ _ _ h => h) (Or.inl ⟨by rfl, ?_⟩) (by assumption) ?_
                  rotate_left
                  · intro w' hSw
                    try dsimp only at hSw
                    go_simp
                    try with_reducible rfl
                  try simp only [Act.put, List.setIfInBounds_toArray, List.set_cons_zero, List.set_cons_succ]
                  refine wpAnyH_take (i := 2) (oi := { dst := some 119, op := _, type := _, pos := _, after := _, guard := _ }) (v := ?_) rfl (by kernel_rfl) (by kernel_rfl) (by kernel_rfl) (fun _ _ _ h => h) (Or.inl ⟨by rfl, ?_⟩) (by assumption) ?_
                  rotate_left
                  · intro w' hSw
                    try dsimp only at hSw
                    go_simp
                    try with_reducible rfl
                  try simp only [Act.put, List.setIfInBounds_toArray, List.set_cons_zero, List.set_cons_succ]
                  refine wpAnyH_take (i := 3) (oi := { dst := some 120, op := _, type := _, pos := _, after := _, guard := _ }) (v := ?_) rfl (by kernel_rfl) (by kernel_rfl) (by kernel_rfl) (fun _ _ _ h => h) (Or.inl ⟨by rfl, ?_⟩) (by assumption) ?_
                  rotate_left
                  · intro w' hSw
                    try dsimp only at hSw
                    go_simp
                    try with_reducible rfl
                  try simp only [Act.put, List.setIfInBounds_toArray, List.set_cons_zero, List.set_cons_succ]
                  refine wpAnyH_take (i := 4) (oi := { dst := some 121, op := _, type := _, pos := _, after := _, guard := _ }) (v := ?_) rfl (by kernel_rfl) (by kernel_rfl) (by kernel_rfl) (fun _ _ _ h => h) (Or.inl ⟨by rfl, ?_⟩) (by assumption) ?_
                  rotate_left
                  · intro w' hSw
                    try dsimp only at hSw
                    go_simp
                    try with_reducible rfl
                  try simp only [Act.put, List.setIfInBounds_toArray, List.set_cons_zero, List.set_cons_succ]
                  refine wpAnyH_take (i := 5) (oi := { dst := some 122, op := _, type := _, pos := _, after := _, guard := _ }) (v := ?_) rfl (by kernel_rfl) (by kernel_rfl) (by kernel_rfl) (fun _ _ _ h => h) (Or.inl ⟨by rfl, ?_⟩) (by assumption) ?_
                  rotate_left
                  · intro w' hSw
                    try dsimp only at hSw
                    go_simp
                    try with_reducible rfl
                  try simp only [Act.put, List.setIfInBounds_toArray, List.set_cons_zero, List.set_cons_succ]
                  refine wpAnyH_take (i := 6) (oi := { dst := some 123, op := _, type := _, pos := _, after := _, guard := _ }) (v := ?_) rfl (by kernel_rfl) (by kernel_rfl) (by kernel_rfl) (fun _ _ _ h => h) (Or.inl ⟨by rfl, ?_⟩) (by assumption) ?_
                  rotate_left
                  · intro w' hSw
                    try dsimp only at hSw
                    go_simp
                    try with_reducible rfl
                  try simp only [Act.put, List.setIfInBounds_toArray, List.set_cons_zero, List.set_cons_succ]
                  refine wpAnyH_take (i := 7) (oi := { dst := some 124, op := _, type := _, pos := _, after := _, guard := _ }) (v := ?_) rfl (by kernel_rfl) (by kernel_rfl) (by kernel_rfl) (fun _ _ _ h => h) (Or.inl ⟨by rfl, ?_⟩) (by assumption) ?_
                  rotate_left
                  · intro w' hSw
                    try dsimp only at hSw
                    go_simp
                    try with_reducible rfl
                  try simp only [Act.put, List.setIfInBounds_toArray, List.set_cons_zero, List.set_cons_succ]
                  refine wpAnyH_take (i := 8) (oi := { dst := some 125, op := _, type := _, pos := _, after := _, guard := _ }) (v := ?_) rfl (by kernel_rfl) (by kernel_rfl) (by kernel_rfl) (fun _ _ _ h => h) (Or.inl ⟨by rfl, ?_⟩) (by assumption) ?_
                  rotate_left
                  · intro w' hSw
                    try dsimp only at hSw
                    go_simp
                    try with_reducible rfl
                  try simp only [Act.put, List.setIfInBounds_toArray, List.set_cons_zero, List.set_cons_succ]
                  refine wpAnyH_take (i := 9) (oi := { dst := some 126, op := _, type := _, pos := _, after := _, guard := _ }) (v := ?_) rfl (by kernel_rfl) (by kernel_rfl) (by kernel_rfl) (fun _ _ _ h => h) (Or.inl ⟨by rfl, ?_⟩) (by assumption) ?_
                  rotate_left
                  · intro w' hSw
                    try dsimp only at hSw
                    go_simp
                    try with_reducible rfl
                  try simp only [Act.put, List.setIfInBounds_toArray, List.set_cons_zero, List.set_cons_succ]
                  refine wpAnyH_take (i := 10) (oi := { dst := some 127, op := _, type := _, pos := _, after := _, guard := _ }) (v := ?_) rfl (by kernel_rfl) (by kernel_rfl) (by kernel_rfl) (fun _ _ _ h => h) (Or.inl ⟨by rfl, ?_⟩) (by assumption) ?_
                  rotate_left
                  · intro w' hSw
                    try dsimp only at hSw
                    go_simp
                    try with_reducible rfl
                  try simp only [Act.put, List.setIfInBounds_toArray, List.set_cons_zero, List.set_cons_succ]
                  refine wpAnyH_take (i := 11) (oi := { dst := some 17, op := _, type := _, pos := _, after := _, guard := _ }) (v := ?_) rfl (by kernel_rfl) (by kernel_rfl) (by kernel_rfl) (fun _ _ _ h => h) (Or.inl ⟨by rfl, ?_⟩) (by assumption) ?_
                  rotate_left
                  · intro w' hSw
                    try dsimp only at hSw
                    go_simp
                    try with_reducible rfl
                  try simp only [Act.put, List.setIfInBounds_toArray, List.set_cons_zero, List.set_cons_succ]
                  refine wpAnyH_done (by kernel_rfl) ?_ _
                  go_wp2_with fail
                  go_roundw
                  case rel => exact ⟨k + 1, _, F8, by omega, by go_num, Lib.hid (HS9.out.drewN 1), HOK8, HFL8, Lib.hid (below_drewN HB9.out 1)⟩
                  case measure => simp [intOf]; omega
            · have k1 : ((K k : Int) != 1) = true := by rw [bne_iff_ne]; exact hK1
              clear hK0 hK1
              go_wp2_with fail
              refine (Data_c HS6.out HOK.out hS6 (by have := hfl; omega) HR6.out HFAR.out).mono ?_
              rintro e W7 hq
              obtain ⟨F7, rfl, hk7, hs7, hf7⟩ := hq.use
              rw [HE1v.out]
              have hba := (Below.refl W7.heap.size W7).alloc (Nat.le_refl _) (.cells #[.int .i64 (d1 : Int), .int .i64 (o1' : Int)] 37)
              have hfx7 := (hk7.blk HFX.out HNX.out)
              have hfx8 := hfx7.below hfx7.lt hba
              have y0' : (W7.alloc (.cells #[.int .i64 (d1 : Int), .int .i64 (o1' : Int)] 37)).cell? ⟨x, 0, none⟩ = some (.int .i64 d1) := hfx8.cell 0
              have y1' : (W7.alloc (.cells #[.int .i64 (d1 : Int), .int .i64 (o1' : Int)] 37)).cell? ⟨x, 1, none⟩ = some (.int .i64 o1') := hfx8.cell 1
              have HS8 := Lib.hid (hs7.below hba)
              have HB7 := HB6.out.trans (HS6.out.belowW hk7 HBS.out HB6.out.size)
              have HB8 := Lib.hid (HB7.trans (hba.mono HB7.size))
              have HOK8 := Lib.hid (HOK.out.data (show 1 ≤ S' by omega) (R k))
              have HFL8 : Hid ((vdata S' v (R k)).flat.length ≤ 4 + 60 * (k + 1)) := vdata_flat_le (R k) hFl.out (by rw [hlenR]; exact hlk)
              clear hq hk7 hs7 hf7 hba hfx7 hfx8 HB7 z80 z81 y0 y1 x0 x1 HS6 HA6 HR6 HK86 HB6 HFX HFY
              unfold plV plC
              go_wp2_with fail
              go_roundw
              case rel => exact ⟨k + 1, _, F7, by omega, by go_num, HS8, HOK8, HFL8, HB8⟩
              case measure => simp [intOf]; omega
        · have t2 : ((d1 : Int) == (d2 : Int)) = false := by rw [beq_eq_false_iff_ne]; omega
          clear hm1 hm2 hd
          by_cases hK0 : K k = 0
          · have k0 : ((K k : Int) != 0) = false := by rw [hK0]; rfl
            clear hK0
            go_wp2_with fail
            refine (NextW_c HS6.out HOK.out hS6 (by rw [← HLL.out]; omega) (RL k : Int) (by simp [Lit.wf, IntKind.min, IntKind.max, IntKind.bits, IntKind.signed]; omega)).mono ?_
            rintro e W7 ⟨rfl, hb7⟩
            obtain ⟨d3, o3, e3⟩ : ∃ d o, nxt S' v (RL k : Int) = (d, o) := ⟨_, _, rfl⟩
            rw [e3]
            have HE3 := Lib.hid e3
            have hba := (Below.refl W7.heap.size W7).alloc (Nat.le_refl _) (.cells #[.int .i64 (d3 : Int), .int .i64 (o3 : Int)] 37)
            have HS7 := Lib.hid ((HS6.out.below hb7).below hba)
            have HA7 := Lib.hid ((HA6.out.below hb7).below hba)
            have HR7 := Lib.hid ((HR6.out.below hb7).below hba)
            have hk87 := HK86.out.below HK86.out.lt hb7
            have HK87 := Lib.hid (hk87.below hk87.lt hba)
            have hB7 := HB6.out.trans (hb7.mono HB6.out.size)
            have HB7 := Lib.hid (hB7.trans (hba.mono hB7.size))
            have HK14 := Lib.hid (Blk.new W7 37 #[.int .i64 (d3 : Int), .int .i64 (o3 : Int)])
            have HN14 : Hid (¬ Fp W7.heap.size) := fun h => by have := (HS6.out.sub _ h).2; have := hb7.size; omega
            have z81' : (W7.alloc (.cells #[.int .i64 (d3 : Int), .int .i64 (o3 : Int)] 37)).cell? ⟨q8, 1, none⟩ = some (.slice (RA k) (RL k) (RC k)) := HK87.out.cell 1
            clear e3 hba hb7 hB7 hk87 z80 z81 y0 y1 x0 x1 HS6 HA6 HR6 HK86 HB6 HFX HFY
            unfold plV plC
            have HRC := Lib.hid (Record_c (c := RC k) HS7.out HOK.out hS6 (by rw [← HLL.out]; omega) HR7.out.row HFAR.out)
            go_wp2_with fail
            generalize W7.alloc (.cells #[.int .i64 (d3 : Int), .int .i64 (o3 : Int)] 37) = V7 at *
            generalize W7.heap.size = q14 at *
            refine HRC.out.mono ?_
            rintro e W8 hq
            obtain ⟨F8, rfl, hk8, hs8, hf8⟩ := hq.use
            have HOK8 := Lib.hid (HOK.out.rec_ (R k))
            have HFL8 : Hid ((recF S' v (R k)).1.flat.length ≤ 4 + 60 * (k + 1)) := rec_flat_le (R k) hFl.out (by rw [hlenR]; exact hlk)
            have HS8 := Lib.hid hs8
            have HB8 := Lib.hid (HB7.out.trans (HS7.out.belowW hk8 HBS.out HB7.out.size))
            have HA8 := Lib.hid (HA7.out.keepF hk8 (fun j hj => HLO.out j hj))
            have HK88 := Lib.hid (hk8.blk HK87.out HN8.out)
            have HK148 := Lib.hid (hk8.blk HK14.out HN14.out)
            clear hq hk8 hs8 hf8 z81' HS7 HA7 HR7 HK87 HB7 HK14 HRC
            by_cases hrec : RL k = 0 ∨ S' < RL k
            · skip
              have er : recF S' v (R k) = (v, 0, 0, 50) := if_pos (by rw [hlenR]; exact hrec)
              rw [er] at HOK8 HFL8 HS8 ⊢
              clear er
              unfold plV plC
              have hba := (Below.refl W8.heap.size W8).alloc (Nat.le_refl _) (.cells #[.int .i64 0, .int .i64 0] 37)
              have HS9 := Lib.hid (HS8.out.below hba)
              have HA9 := Lib.hid (HA8.out.below hba)
              have HB9 := Lib.hid (HB8.out.trans (hba.mono HB8.out.size))
              have hk89 := HK88.out.below HK88.out.lt hba
              have z8 : (W8.alloc (.cells #[.int .i64 0, .int .i64 0] 37)).cell? ⟨q8, 1, none⟩ = some (.slice (RA k) (RL k) (RC k)) := hk89.cell 1
              clear hba hk89 HS8 HA8 HB8 HK88 HK148
              have HRW := Lib.hid (RowW_c HS9.out HOK8.out hS6 (by rw [← HLL.out]; omega))
              by_cases hz : 0 < RL k
              · have c1 : (0 : Int) < (RL k : Int) := by omega
                have c2 : ¬ (RL k : Int) ≤ (S' : Int) := by omega
                clear hrec hz
                go_wp2_with fail
                refine HRW.out.mono ?_
                rintro e W10 ⟨gS, cS, RA2, RC2, rfl, hA2, hb10⟩
                have HA10 := Lib.hid (HA9.out.below hb10)
                have HS10 := Lib.hid (HS9.out.below hb10)
                have HB10 := Lib.hid (HB9.out.trans (hb10.mono HB9.out.size))
                have HA2 := Lib.hid hA2
                clear hA2 hb10 HS9 HA9 HB9 HRW z8
                rw [← HLL.out] at HA2 ⊢
                go_wp2_with fail
                refine (RowsW_c HA2.out.min HA10.out.min).mono ?_
                rintro e _ ⟨rfl, q, rfl⟩
                rw [decide_eq_true (show sameR (l + 1) (vrow v) (l + 1) (vrow v) from ⟨rfl, fun _ _ => rfl⟩)]
                have HS11 := Lib.hid (HS10.out.drewN q)
                have HB11 := Lib.hid (below_drewN HB10.out q)
                clear HS10 HB10 HA10 HA2
                go_wp2_with fail
                go_roundw
                case rel => exact ⟨k + 1, v, F8, by omega, by go_num, HS11, HOK8, HFL8, HB11⟩
                case measure => simp [intOf]; omega
              · have c1 : ¬ (0 : Int) < (RL k : Int) := by omega
                clear hrec hz
                go_wp2_with fail
                refine HRW.out.mono ?_
                rintro e W10 ⟨gS, cS, RA2, RC2, rfl, hA2, hb10⟩
                have HA10 := Lib.hid (HA9.out.below hb10)
                have HS10 := Lib.hid (HS9.out.below hb10)
                have HB10 := Lib.hid (HB9.out.trans (hb10.mono HB9.out.size))
                have HA2 := Lib.hid hA2
                clear hA2 hb10 HS9 HA9 HB9 HRW z8
                rw [← HLL.out] at HA2 ⊢
                go_wp2_with fail
                refine (RowsW_c HA2.out.min HA10.out.min).mono ?_
                rintro e _ ⟨rfl, q, rfl⟩
                rw [decide_eq_true (show sameR (l + 1) (vrow v) (l + 1) (vrow v) from ⟨rfl, fun _ _ => rfl⟩)]
                have HS11 := Lib.hid (HS10.out.drewN q)
                have HB11 := Lib.hid (below_drewN HB10.out q)
                clear HS10 HB10 HA10 HA2
                go_wp2_with fail
                go_roundw
                case rel => exact ⟨k + 1, v, F8, by omega, by go_num, HS11, HOK8, HFL8, HB11⟩
                case measure => simp [intOf]; omega
            · skip
              have er : recF S' v (R k) = (vput S' v (R k), d3, o3, 0) := by
                have e1 : recF S' v (R k) = (vput S' v (R k), (vat S' v (R k).length).1, (vat S' v (R k).length).2, 0) := if_neg (by rw [hlenR]; exact hrec)
                have e2 := HE3.out
                rw [nxt_vat (by omega) (by omega), ← hlenR] at e2
                rw [e1, e2]
              have hdd : (d3 = l ∧ v.q.length + RL k ≤ S') ∨ (d3 = l + 1 ∧ o3 = 0 ∧ ¬ v.q.length + RL k ≤ S') := by
                have e2 := HE3.out
                rw [nxt_vat (by omega) (by omega)] at e2
                unfold vat at e2
                by_cases e : v.q.length + RL k ≤ S'
                · rw [if_pos e] at e2
                  injection e2 with e3 e4
                  exact .inl ⟨by rw [HLL.out]; exact e3.symm, e⟩
                · rw [if_neg e] at e2
                  injection e2 with e3 e4
                  exact .inr ⟨by rw [HLL.out]; exact e3.symm, e4.symm, e⟩
              rw [er] at HOK8 HFL8 HS8 ⊢
              clear er
              unfold plV plC
              have hba := (Below.refl W8.heap.size W8).alloc (Nat.le_refl _) (.cells #[.int .i64 (d3 : Int), .int .i64 (o3 : Int)] 37)
              have HS9 := Lib.hid (HS8.out.below hba)
              have hA9 := HA8.out.below hba
              have HB9 := Lib.hid (HB8.out.trans (hba.mono HB8.out.size))
              have hk89 := HK88.out.below HK88.out.lt hba
              have hk149 := HK148.out.below HK148.out.lt hba
              have hk15 := Blk.new W8 37 #[.int .i64 (d3 : Int), .int .i64 (o3 : Int)]
              have z8 : (W8.alloc (.cells #[.int .i64 (d3 : Int), .int .i64 (o3 : Int)] 37)).cell? ⟨q8, 1, none⟩ = some (.slice (RA k) (RL k) (RC k)) := hk89.cell 1
              have z140 : (W8.alloc (.cells #[.int .i64 (d3 : Int), .int .i64 (o3 : Int)] 37)).cell? ⟨q14, 0, none⟩ = some (.int .i64 d3) := hk149.cell 0
              have z141 : (W8.alloc (.cells #[.int .i64 (d3 : Int), .int .i64 (o3 : Int)] 37)).cell? ⟨q14, 1, none⟩ = some (.int .i64 o3) := hk149.cell 1
              have z150 : (W8.alloc (.cells #[.int .i64 (d3 : Int), .int .i64 (o3 : Int)] 37)).cell? ⟨W8.heap.size, 0, none⟩ = some (.int .i64 d3) := hk15.cell 0
              have z151 : (W8.alloc (.cells #[.int .i64 (d3 : Int), .int .i64 (o3 : Int)] 37)).cell? ⟨W8.heap.size, 1, none⟩ = some (.int .i64 o3) := hk15.cell 1
              obtain ⟨bR, oR, eR, _, zR⟩ := MIn.at_ hA9.min (r := l) (by omega)
              injection eR with eR
              injection eR with eR1 eR2 _
              subst eR1 eR2
              rw [Nat.zero_add] at zR
              rw [show (vrow v l).length = v.q.length by rw [HLL.out, vrow_last]] at zR
              clear hba hk89 hk149 hk15 hA9 HS8 HA8 HB8 HK88 HK148
              generalize v.q.length = L at *
              have ix1 : (0 : Int) ≤ (l : Int) := by omega
              have ix2 : (l : Int) < (l : Int) + 1 := by omega
              have hLS : L ≤ S' := HQS
              have hw2 : IntKind.i64.wrap ((L : Int) + (RL k : Int)) = (L : Int) + (RL k : Int) := IntWalk.i64_in _ (by omega)
              rcases hdd with ⟨hd3, hfit⟩ | ⟨hd3, ho3, hfit⟩
              · have f1 : decide ((L : Int) + (RL k : Int) ≤ (S' : Int)) = true := decide_eq_true (by omega)
                have f2 : ((d3 : Int) == (l : Int)) = true := by rw [beq_iff_eq]; omega
                clear hd3 hfit hrec
                go_wp2_with fail
                refine wp_region_held_drew (S := fun W' => W'.cell? ⟨q8, 1, none⟩ = some (.slice (RA k) (RL k) (RC k)) ∧ W'.cell? ⟨gR, l, none⟩ = some (.slice (RA' l) L (RC' l))) (by kernel_rfl) ?_ (fun hHeld => ?_)
                · go_keep
                refine wpAnyH_take (i := 0) (oi := { dst := some 117, op := _, type := _, pos := _, after := _, guard := _ }) (v := ?_) rfl (by kernel_rfl) (by kernel_rfl) (by kernel_rfl) (fun _ _ _ h => h) (Or.inl ⟨by rfl, ?_⟩) (by assumption) ?_
                rotate_left
                · intro w' hSw
                  try dsimp only at hSw
                  go_simp
                  try with_reducible rfl
                try simp only [Act.put, List.setIfInBounds_toArray, List.set_cons_zero, List.set_cons_succ]
                refine wpAnyH_take (i := 1) (oi := { dst := some 118, op := _, type := _, pos := _, after := _, guard := _ }) (v := ?_) rfl (by kernel_rfl) (by kernel_rfl) (by kernel_rfl) (fun _ _ _ h => h) (Or.inl ⟨by rfl, ?_⟩) (by assumption) ?_
                rotate_left
                · intro w' hSw
                  try dsimp only at hSw
                  go_simp
                  try with_reducible rfl
                try simp only [Act.put, List.setIfInBounds_toArray, List.set_cons_zero, List.set_cons_succ]
                refine wpAnyH_take (i := 2) (oi := { dst := some 119, op := _, type := _, pos := _, after := _, guard := _ }) (v := ?_) rfl (by kernel_rfl) (by kernel_rfl) (by kernel_rfl) (fun _ _ _ h => h) (Or.inl ⟨by rfl, ?_⟩) (by assumption) ?_
                rotate_left
                · intro w' hSw
                  try dsimp only at hSw
                  go_simp
                  try with_reducible rfl
                try simp only [Act.put, List.setIfInBounds_toArray, List.set_cons_zero, List.set_cons_succ]
                refine wpAnyH_take (i := 3) (oi := { dst := some 120, op := _, type := _, pos := _, after := _, guard := _ }) (v := ?_) rfl (by kernel_rfl) (by kernel_rfl) (by kernel_rfl) (fun _ _ _ h => h) (Or.inl ⟨by rfl, ?_⟩) (by assumption) ?_
                rotate_left
                · intro w' hSw
                  try dsimp only at hSw
                  go_simp
                  try with_reducible rfl
                try simp only [Act.put, List.setIfInBounds_toArray, List.set_cons_zero, List.set_cons_succ]
                refine wpAnyH_take (i := 4) (oi := { dst := some 121, op := _, type := _, pos := _, after := _, guard := _ }) (v := ?_) rfl (by kernel_rfl) (by kernel_rfl) (by kernel_rfl) (fun _ _ _ h => h) (Or.inl ⟨by rfl, ?_⟩) (by assumption) ?_
                rotate_left
                · intro w' hSw
                  try dsimp only at hSw
                  go_simp
                  try with_reducible rfl
                try simp only [Act.put, List.setIfInBounds_toArray, List.set_cons_zero, List.set_cons_succ]
                refine wpAnyH_take (i := 5) (oi := { dst := some 122, op := _, type := _, pos := _, after := _, guard := _ }) (v := ?_) rfl (by kernel_rfl) (by kernel_rfl) (by kernel_rfl) (fun _ _ _ h => h) (Or.inl ⟨by rfl, ?_⟩) (by assumption) ?_
                rotate_left
                · intro w' hSw
                  try dsimp only at hSw
                  go_simp
                  try with_reducible rfl
                try simp only [Act.put, List.setIfInBounds_toArray, List.set_cons_zero, List.set_cons_succ]
                refine wpAnyH_take (i := 6) (oi := { dst := some 123, op := _, type := _, pos := _, after := _, guard := _ }) (v := ?_) rfl (by kernel_rfl) (by kernel_rfl) (by kernel_rfl) (fun _ _ _ h => h) (Or.inl ⟨by rfl, ?_⟩) (by assumption) ?_
                rotate_left
                · intro w' hSw
                  try dsimp only at hSw
                  go_simp
                  try with_reducible rfl
                try simp only [Act.put, List.setIfInBounds_toArray, List.set_cons_zero, List.set_cons_succ]
                refine wpAnyH_take (i := 7) (oi := { dst := some 124, op := _, type := _, pos := _, after := _, guard := _ }) (v := ?_) rfl (by kernel_rfl) (by kernel_rfl) (by kernel_rfl) (fun _ _ _ h => h) (Or.inl ⟨by rfl, ?_⟩) (by assumption) ?_
                rotate_left
                · intro w' hSw
                  try dsimp only at hSw
                  go_simp
                  try with_reducible rfl
                try simp only [Act.put, List.setIfInBounds_toArray, List.set_cons_zero, List.set_cons_succ]
                refine wpAnyH_take (i := 8) (oi := { dst := some 125, op := _, type := _, pos := _, after := _, guard := _ }) (v := ?_) rfl (by kernel_rfl) (by kernel_rfl) (by kernel_rfl) (fun _ _ _ h => h) (Or.inl ⟨by rfl, ?_⟩) (by assumption) ?_
                rotate_left
                · intro w' hSw
                  try dsimp only at hSw
                  go_simp
                  try with_reducible rfl
                try simp only [Act.put, List.setIfInBounds_toArray, List.set_cons_zero, List.set_cons_succ]
                refine wpAnyH_take (i := 9) (oi := { dst := some 126, op := _, type := _, pos := _, after := _, guard := _ }) (v := ?_) rfl (by kernel_rfl) (by kernel_rfl) (by kernel_rfl) (fun _ _ _ h => h) (Or.inl ⟨by rfl, ?_⟩) (by assumption) ?_
                rotate_left
                · intro w' hSw
                  try dsimp only at hSw
                  go_simp
                  try with_reducible rfl
                try simp only [Act.put, List.setIfInBounds_toArray, List.set_cons_zero, List.set_cons_succ]
                refine wpAnyH_take (i := 10) (oi := { dst := some 127, op := _, type := _, pos := _, after := _, guard := _ }) (v := ?_) rfl (by kernel_rfl) (by kernel_rfl) (by kernel_rfl) (fun _ _ _ h => h) (Or.inl ⟨by rfl, ?_⟩) (by assumption) ?_
                rotate_left
                · intro w' hSw
                  try dsimp only at hSw
                  go_simp
                  try with_reducible rfl
                try simp only [Act.put, List.setIfInBounds_toArray, List.set_cons_zero, List.set_cons_succ]
                refine wpAnyH_take (i := 11) (oi := { dst := some 17, op := _, type := _, pos := _, after := _, guard := _ }) (v := ?_) rfl (by kernel_rfl) (by kernel_rfl) (by kernel_rfl) (fun _ _ _ h => h) (Or.inl ⟨by rfl, ?_⟩) (by assumption) ?_
                rotate_left
                · intro w' hSw
                  try dsimp only at hSw
                  go_simp
                  try with_reducible rfl
                try simp only [Act.put, List.setIfInBounds_toArray, List.set_cons_zero, List.set_cons_succ]
                refine wpAnyH_done (by kernel_rfl) ?_ _
                go_wp2_with fail
                go_roundw
                case rel => exact ⟨k + 1, _, F8, by omega, by go_num, Lib.hid (HS9.out.drewN 1), HOK8, HFL8, Lib.hid (below_drewN HB9.out 1)⟩
                case measure => simp [intOf]; omega
              · have f1 : decide ((L : Int) + (RL k : Int) ≤ (S' : Int)) = false := decide_eq_false (by omega)
                have f2 : ((d3 : Int) == (l : Int)) = false := by rw [beq_eq_false_iff_ne]; omega
                have f3 : ((o3 : Int) != 0) = false := by rw [ho3]; rfl
                clear hd3 hfit hrec ho3
                go_wp2_with fail
                refine wp_region_held_drew (S := fun W' => W'.cell? ⟨q8, 1, none⟩ = some (.slice (RA k) (RL k) (RC k)) ∧ W'.cell? ⟨gR, l, none⟩ = some (.slice (RA' l) L (RC' l))) (by kernel_rfl) ?_ (fun hHeld => ?_)
                · go_keep
                refine wpAnyH_take (i := 0) (oi := { dst := some 117, op := _, type := _, pos := _, after := _, guard := _ }) (v := ?_) rfl (by kernel_rfl) (by kernel_rfl) (by kernel_rfl) (fun _ _ _ h => h) (Or.inl ⟨by rfl, ?_⟩) (by assumption) ?_
                rotate_left
                · intro w' hSw
                  try dsimp only at hSw
                  go_simp
                  try with_reducible rfl
                try simp only [Act.put, List.setIfInBounds_toArray, List.set_cons_zero, List.set_cons_succ]
                refine wpAnyH_take (i := 1) (oi := { dst := some 118, op := _, type := _, pos := _, after := _, guard := _ }) (v := ?_) rfl (by kernel_rfl) (by kernel_rfl) (by kernel_rfl) (fun _ _ _ h => h) (Or.inl ⟨by rfl, ?_⟩) (by assumption) ?_
                rotate_left
                · intro w' hSw
                  try dsimp only at hSw
                  go_simp
                  try with_reducible rfl
                try simp only [Act.put, List.setIfInBounds_toArray, List.set_cons_zero, List.set_cons_succ]
                refine wpAnyH_take (i := 2) (oi := { dst := some 119, op := _, type := _, pos := _, after := _, guard := _ }) (v := ?_) rfl (by kernel_rfl) (by kernel_rfl) (by kernel_rfl) (fun _ _ _ h => h) (Or.inl ⟨by rfl, ?_⟩) (by assumption) ?_
                rotate_left
                · intro w' hSw
                  try dsimp only at hSw
                  go_simp
                  try with_reducible rfl
                try simp only [Act.put, List.setIfInBounds_toArray, List.set_cons_zero, List.set_cons_succ]
                refine wpAnyH_take (i := 3) (oi := { dst := some 120, op := _, type := _, pos := _, after := _, guard := _ }) (v := ?_) rfl (by kernel_rfl) (by kernel_rfl) (by kernel_rfl) (fun _ _ _ h => h) (Or.inl ⟨by rfl, ?_⟩) (by assumption) ?_
                rotate_left
                · intro w' hSw
                  try dsimp only at hSw
                  go_simp
                  try with_reducible rfl
                try simp only [Act.put, List.setIfInBounds_toArray, List.set_cons_zero, List.set_cons_succ]
                refine wpAnyH_take (i := 4) (oi := { dst := some 121, op := _, type := _, pos := _, after := _, guard := _ }) (v := ?_) rfl (by kernel_rfl) (by kernel_rfl) (by kernel_rfl) (fun _ _ _ h => h) (Or.inl ⟨by rfl, ?_⟩) (by assumption) ?_
                rotate_left
                · intro w' hSw
                  try dsimp only at hSw
                  go_simp
                  try with_reducible rfl
                try simp only [Act.put, List.setIfInBounds_toArray, List.set_cons_zero, List.set_cons_succ]
                refine wpAnyH_take (i := 5) (oi := { dst := some 122, op := _, type := _, pos := _, after := _, guard := _ }) (v := ?_) rfl (by kernel_rfl) (by kernel_rfl) (by kernel_rfl) (fun _ _ _ h => h) (Or.inl ⟨by rfl, ?_⟩) (by assumption) ?_
                rotate_left
                · intro w' hSw
                  try dsimp only at hSw
                  go_simp
                  try with_reducible rfl
                try simp only [Act.put, List.setIfInBounds_toArray, List.set_cons_zero, List.set_cons_succ]
                refine wpAnyH_take (i := 6) (oi := { dst := some 123, op := _, type := _, pos := _, after := _, guard := _ }) (v := ?_) rfl (by kernel_rfl) (by kernel_rfl) (by kernel_rfl) (fun _ _ _ h => h) (Or.inl ⟨by rfl, ?_⟩) (by assumption) ?_
                rotate_left
                · intro w' hSw
                  try dsimp only at hSw
                  go_simp
                  try with_reducible rfl
                try simp only [Act.put, List.setIfInBounds_toArray, List.set_cons_zero, List.set_cons_succ]
                refine wpAnyH_take (i := 7) (oi := { dst := some 124, op := _, type := _, pos := _, after := _, guard := _ }) (v := ?_) rfl (by kernel_rfl) (by kernel_rfl) (by kernel_rfl) (fun _ _ _ h => h) (Or.inl ⟨by rfl, ?_⟩) (by assumption) ?_
                rotate_left
                · intro w' hSw
                  try dsimp only at hSw
                  go_simp
                  try with_reducible rfl
                try simp only [Act.put, List.setIfInBounds_toArray, List.set_cons_zero, List.set_cons_succ]
                refine wpAnyH_take (i := 8) (oi := { dst := some 125, op := _, type := _, pos := _, after := _, guard := _ }) (v := ?_) rfl (by kernel_rfl) (by kernel_rfl) (by kernel_rfl) (fun _ _ _ h => h) (Or.inl ⟨by rfl, ?_⟩) (by assumption) ?_
                rotate_left
                · intro w' hSw
                  try dsimp only at hSw
                  go_simp
                  try with_reducible rfl
                try simp only [Act.put, List.setIfInBounds_toArray, List.set_cons_zero, List.set_cons_succ]
                refine wpAnyH_take (i := 9) (oi := { dst := some 126, op := _, type := _, pos := _, after := _, guard := _ }) (v := ?_) rfl (by kernel_rfl) (by kernel_rfl) (by kernel_rfl) (fun _ _ _ h => h) (Or.inl ⟨by rfl, ?_⟩) (by assumption) ?_
                rotate_left
                · intro w' hSw
                  try dsimp only at hSw
                  go_simp
                  try with_reducible rfl
                try simp only [Act.put, List.setIfInBounds_toArray, List.set_cons_zero, List.set_cons_succ]
                refine wpAnyH_take (i := 10) (oi := { dst := some 127, op := _, type := _, pos := _, after := _, guard := _ }) (v := ?_) rfl (by kernel_rfl) (by kernel_rfl) (by kernel_rfl) (fun _ _ _ h => h) (Or.inl ⟨by rfl, ?_⟩) (by assumption) ?_
                rotate_left
                · intro w' hSw
                  try dsimp only at hSw
                  go_simp
                  try with_reducible rfl
                try simp only [Act.put, List.setIfInBounds_toArray, List.set_cons_zero, List.set_cons_succ]
                refine wpAnyH_take (i := 11) (oi := { dst := some 17, op := _, type := _, pos := _, after := _, guard := _ }) (v := ?_) rfl (by kernel_rfl) (by kernel_rfl) (by kernel_rfl) (fun _ _ _ h => h) (Or.inl ⟨by rfl, ?_⟩) (by assumption) ?_
                rotate_left
                · intro w' hSw
                  try dsimp only at hSw
                  go_simp
                  try with_reducible rfl
                try simp only [Act.put, List.setIfInBounds_toArray, List.set_cons_zero, List.set_cons_succ]
                refine wpAnyH_done (by kernel_rfl) ?_ _
                go_wp2_with fail
                go_roundw
                case rel => exact ⟨k + 1, _, F8, by omega, by go_num, Lib.hid (HS9.out.drewN 1), HOK8, HFL8, Lib.hid (below_drewN HB9.out 1)⟩
                case measure => simp [intOf]; omega
          · have k0 : ((K k : Int) != 0) = true := by rw [bne_iff_ne]; exact hK0
            by_cases hK1 : K k = 1
            · have k1 : ((K k : Int) != 1) = false := by rw [hK1]; rfl
              clear hK0 hK1
              go_wp2_with fail
              refine (NextW_c HS6.out HOK.out hS6 (by rw [← HLL.out]; omega) (RL k : Int) (by simp [Lit.wf, IntKind.min, IntKind.max, IntKind.bits, IntKind.signed]; omega)).mono ?_
              rintro e W7 ⟨rfl, hb7⟩
              obtain ⟨d3, o3, e3⟩ : ∃ d o, nxt S' v (RL k : Int) = (d, o) := ⟨_, _, rfl⟩
              rw [e3]
              have HE3 := Lib.hid e3
              have hba := (Below.refl W7.heap.size W7).alloc (Nat.le_refl _) (.cells #[.int .i64 (d3 : Int), .int .i64 (o3 : Int)] 37)
              have HS7 := Lib.hid ((HS6.out.below hb7).below hba)
              have HA7 := Lib.hid ((HA6.out.below hb7).below hba)
              have HR7 := Lib.hid ((HR6.out.below hb7).below hba)
              have hk87 := HK86.out.below HK86.out.lt hb7
              have HK87 := Lib.hid (hk87.below hk87.lt hba)
              have hB7 := HB6.out.trans (hb7.mono HB6.out.size)
              have HB7 := Lib.hid (hB7.trans (hba.mono hB7.size))
              have HK14 := Lib.hid (Blk.new W7 37 #[.int .i64 (d3 : Int), .int .i64 (o3 : Int)])
              have HN14 : Hid (¬ Fp W7.heap.size) := fun h => by have := (HS6.out.sub _ h).2; have := hb7.size; omega
              have z81' : (W7.alloc (.cells #[.int .i64 (d3 : Int), .int .i64 (o3 : Int)] 37)).cell? ⟨q8, 1, none⟩ = some (.slice (RA k) (RL k) (RC k)) := HK87.out.cell 1
              clear e3 hba hb7 hB7 hk87 z80 z81 y0 y1 x0 x1 HS6 HA6 HR6 HK86 HB6 HFX HFY
              unfold plV plC
              have HRC := Lib.hid (Record_c (c := RC k) HS7.out HOK.out hS6 (by rw [← HLL.out]; omega) HR7.out.row HFAR.out)
              go_wp2_with fail
              generalize W7.alloc (.cells #[.int .i64 (d3 : Int), .int .i64 (o3 : Int)] 37) = V7 at *
              generalize W7.heap.size = q14 at *
              refine HRC.out.mono ?_
              rintro e W8 hq
              obtain ⟨F8, rfl, hk8, hs8, hf8⟩ := hq.use
              have HOK8 := Lib.hid (HOK.out.rec_ (R k))
              have HFL8 : Hid ((recF S' v (R k)).1.flat.length ≤ 4 + 60 * (k + 1)) := rec_flat_le (R k) hFl.out (by rw [hlenR]; exact hlk)
              have HS8 := Lib.hid hs8
              have HB8 := Lib.hid (HB7.out.trans (HS7.out.belowW hk8 HBS.out HB7.out.size))
              have HA8 := Lib.hid (HA7.out.keepF hk8 (fun j hj => HLO.out j hj))
              have HK88 := Lib.hid (hk8.blk HK87.out HN8.out)
              have HK148 := Lib.hid (hk8.blk HK14.out HN14.out)
              clear hq hk8 hs8 hf8 z81' HS7 HA7 HR7 HK87 HB7 HK14 HRC
              by_cases hrec : RL k = 0 ∨ S' < RL k
              · skip
                have er : recF S' v (R k) = (v, 0, 0, 50) := if_pos (by rw [hlenR]; exact hrec)
                rw [er] at HOK8 HFL8 HS8 ⊢
                clear er
                unfold plV plC
                have hba := (Below.refl W8.heap.size W8).alloc (Nat.le_refl _) (.cells #[.int .i64 0, .int .i64 0] 37)
                have HS9 := Lib.hid (HS8.out.below hba)
                have HA9 := Lib.hid (HA8.out.below hba)
                have HB9 := Lib.hid (HB8.out.trans (hba.mono HB8.out.size))
                have hk89 := HK88.out.below HK88.out.lt hba
                have z8 : (W8.alloc (.cells #[.int .i64 0, .int .i64 0] 37)).cell? ⟨q8, 1, none⟩ = some (.slice (RA k) (RL k) (RC k)) := hk89.cell 1
                clear hba hk89 HS8 HA8 HB8 HK88 HK148
                have HRW := Lib.hid (RowW_c HS9.out HOK8.out hS6 (by rw [← HLL.out]; omega))
                by_cases hz : 0 < RL k
                · have c1 : (0 : Int) < (RL k : Int) := by omega
                  have c2 : ¬ (RL k : Int) ≤ (S' : Int) := by omega
                  clear hrec hz
                  go_wp2_with fail
                  refine HRW.out.mono ?_
                  rintro e W10 ⟨gS, cS, RA2, RC2, rfl, hA2, hb10⟩
                  have HA10 := Lib.hid (HA9.out.below hb10)
                  have HS10 := Lib.hid (HS9.out.below hb10)
                  have HB10 := Lib.hid (HB9.out.trans (hb10.mono HB9.out.size))
                  have HA2 := Lib.hid hA2
                  clear hA2 hb10 HS9 HA9 HB9 HRW z8
                  rw [← HLL.out] at HA2 ⊢
                  go_wp2_with fail
                  refine (RowsW_c HA2.out.min HA10.out.min).mono ?_
                  rintro e _ ⟨rfl, q, rfl⟩
                  rw [decide_eq_true (show sameR (l + 1) (vrow v) (l + 1) (vrow v) from ⟨rfl, fun _ _ => rfl⟩)]
                  have HS11 := Lib.hid (HS10.out.drewN q)
                  have HB11 := Lib.hid (below_drewN HB10.out q)
                  clear HS10 HB10 HA10 HA2
                  go_wp2_with fail
                  go_roundw
                  case rel => exact ⟨k + 1, v, F8, by omega, by go_num, HS11, HOK8, HFL8, HB11⟩
                  case measure => simp [intOf]; omega
                · have c1 : ¬ (0 : Int) < (RL k : Int) := by omega
                  clear hrec hz
                  go_wp2_with fail
                  refine HRW.out.mono ?_
                  rintro e W10 ⟨gS, cS, RA2, RC2, rfl, hA2, hb10⟩
                  have HA10 := Lib.hid (HA9.out.below hb10)
                  have HS10 := Lib.hid (HS9.out.below hb10)
                  have HB10 := Lib.hid (HB9.out.trans (hb10.mono HB9.out.size))
                  have HA2 := Lib.hid hA2
                  clear hA2 hb10 HS9 HA9 HB9 HRW z8
                  rw [← HLL.out] at HA2 ⊢
                  go_wp2_with fail
                  refine (RowsW_c HA2.out.min HA10.out.min).mono ?_
                  rintro e _ ⟨rfl, q, rfl⟩
                  rw [decide_eq_true (show sameR (l + 1) (vrow v) (l + 1) (vrow v) from ⟨rfl, fun _ _ => rfl⟩)]
                  have HS11 := Lib.hid (HS10.out.drewN q)
                  have HB11 := Lib.hid (below_drewN HB10.out q)
                  clear HS10 HB10 HA10 HA2
                  go_wp2_with fail
                  go_roundw
                  case rel => exact ⟨k + 1, v, F8, by omega, by go_num, HS11, HOK8, HFL8, HB11⟩
                  case measure => simp [intOf]; omega
              · skip
                have er : recF S' v (R k) = (vput S' v (R k), d3, o3, 0) := by
                  have e1 : recF S' v (R k) = (vput S' v (R k), (vat S' v (R k).length).1, (vat S' v (R k).length).2, 0) := if_neg (by rw [hlenR]; exact hrec)
                  have e2 := HE3.out
                  rw [nxt_vat (by omega) (by omega), ← hlenR] at e2
                  rw [e1, e2]
                have hdd : (d3 = l ∧ v.q.length + RL k ≤ S') ∨ (d3 = l + 1 ∧ o3 = 0 ∧ ¬ v.q.length + RL k ≤ S') := by
                  have e2 := HE3.out
                  rw [nxt_vat (by omega) (by omega)] at e2
                  unfold vat at e2
                  by_cases e : v.q.length + RL k ≤ S'
                  · rw [if_pos e] at e2
                    injection e2 with e3 e4
                    exact .inl ⟨by rw [HLL.out]; exact e3.symm, e⟩
                  · rw [if_neg e] at e2
                    injection e2 with e3 e4
                    exact .inr ⟨by rw [HLL.out]; exact e3.symm, e4.symm, e⟩
                rw [er] at HOK8 HFL8 HS8 ⊢
                clear er
                unfold plV plC
                have hba := (Below.refl W8.heap.size W8).alloc (Nat.le_refl _) (.cells #[.int .i64 (d3 : Int), .int .i64 (o3 : Int)] 37)
                have HS9 := Lib.hid (HS8.out.below hba)
                have hA9 := HA8.out.below hba
                have HB9 := Lib.hid (HB8.out.trans (hba.mono HB8.out.size))
                have hk89 := HK88.out.below HK88.out.lt hba
                have hk149 := HK148.out.below HK148.out.lt hba
                have hk15 := Blk.new W8 37 #[.int .i64 (d3 : Int), .int .i64 (o3 : Int)]
                have z8 : (W8.alloc (.cells #[.int .i64 (d3 : Int), .int .i64 (o3 : Int)] 37)).cell? ⟨q8, 1, none⟩ = some (.slice (RA k) (RL k) (RC k)) := hk89.cell 1
                have z140 : (W8.alloc (.cells #[.int .i64 (d3 : Int), .int .i64 (o3 : Int)] 37)).cell? ⟨q14, 0, none⟩ = some (.int .i64 d3) := hk149.cell 0
                have z141 : (W8.alloc (.cells #[.int .i64 (d3 : Int), .int .i64 (o3 : Int)] 37)).cell? ⟨q14, 1, none⟩ = some (.int .i64 o3) := hk149.cell 1
                have z150 : (W8.alloc (.cells #[.int .i64 (d3 : Int), .int .i64 (o3 : Int)] 37)).cell? ⟨W8.heap.size, 0, none⟩ = some (.int .i64 d3) := hk15.cell 0
                have z151 : (W8.alloc (.cells #[.int .i64 (d3 : Int), .int .i64 (o3 : Int)] 37)).cell? ⟨W8.heap.size, 1, none⟩ = some (.int .i64 o3) := hk15.cell 1
                obtain ⟨bR, oR, eR, _, zR⟩ := MIn.at_ hA9.min (r := l) (by omega)
                injection eR with eR
                injection eR with eR1 eR2 _
                subst eR1 eR2
                rw [Nat.zero_add] at zR
                rw [show (vrow v l).length = v.q.length by rw [HLL.out, vrow_last]] at zR
                clear hba hk89 hk149 hk15 hA9 HS8 HA8 HB8 HK88 HK148
                generalize v.q.length = L at *
                have ix1 : (0 : Int) ≤ (l : Int) := by omega
                have ix2 : (l : Int) < (l : Int) + 1 := by omega
                have hLS : L ≤ S' := HQS
                have hw2 : IntKind.i64.wrap ((L : Int) + (RL k : Int)) = (L : Int) + (RL k : Int) := IntWalk.i64_in _ (by omega)
                rcases hdd with ⟨hd3, hfit⟩ | ⟨hd3, ho3, hfit⟩
                · have f1 : decide ((L : Int) + (RL k : Int) ≤ (S' : Int)) = true := decide_eq_true (by omega)
                  have f2 : ((d3 : Int) == (l : Int)) = true := by rw [beq_iff_eq]; omega
                  clear hd3 hfit hrec
                  go_wp2_with fail
                  refine wp_region_held_drew (S := fun W' => W'.cell? ⟨q8, 1, none⟩ = some (.slice (RA k) (RL k) (RC k)) ∧ W'.cell? ⟨gR, l, none⟩ = some (.slice (RA' l) L (RC' l))) (by kernel_rfl) ?_ (fun hHeld => ?_)
                  · go_keep
                  refine wpAnyH_take (i := 0) (oi := { dst := some 117, op := _, type := _, pos := _, after := _, guard := _ }) (v := ?_) rfl (by kernel_rfl) (by kernel_rfl) (by kernel_rfl) (fun _ _ _ h => h) (Or.inl ⟨by rfl, ?_⟩) (by assumption) ?_
                  rotate_left
                  · intro w' hSw
                    try dsimp only at hSw
                    go_simp
                    try with_reducible rfl
                  try simp only [Act.put, List.setIfInBounds_toArray, List.set_cons_zero, List.set_cons_succ]
                  refine wpAnyH_take (i := 1) (oi := { dst := some 118, op := _, type := _, pos := _, after := _, guard := _ }) (v := ?_) rfl (by kernel_rfl) (by kernel_rfl) (by kernel_rfl) (fun _ _ _ h => h) (Or.inl ⟨by rfl, ?_⟩) (by assumption) ?_
                  rotate_left
                  · intro w' hSw
                    try dsimp only at hSw
                    go_simp
                    try with_reducible rfl
                  try simp only [Act.put, List.setIfInBounds_toArray, List.set_cons_zero, List.set_cons_succ]
                  refine wpAnyH_take (i := 2) (oi := { dst := some 119, op := _, type := _, pos := _, after := _, guard := _ }) (v := ?_) rfl (by kernel_rfl) (by kernel_rfl) (by kernel_rfl) (fun _ _ _ h => h) (Or.inl ⟨by rfl, ?_⟩) (by assumption) ?_
                  rotate_left
                  · intro w' hSw
                    try dsimp only at hSw
                    go_simp
                    try with_reducible rfl
                  try simp only [Act.put, List.setIfInBounds_toArray, List.set_cons_zero, List.set_cons_succ]
                  refine wpAnyH_take (i := 3) (oi := { dst := some 120, op := _, type := _, pos := _, after := _, guard := _ }) (v := ?_) rfl (by kernel_rfl) (by kernel_rfl) (by kernel_rfl) (fun _ _ _ h => h) (Or.inl ⟨by rfl, ?_⟩) (by assumption) ?_
                  rotate_left
                  · intro w' hSw
                    try dsimp only at hSw
                    go_simp
                    try with_reducible rfl
                  try simp only [Act.put, List.setIfInBounds_toArray, List.set_cons_zero, List.set_cons_succ]
                  refine wpAnyH_take (i := 4) (oi := { dst := some 121, op := _, type := _, pos := _, after := _, guard := _ }) (v := ?_) rfl (by kernel_rfl) (by kernel_rfl) (by kernel_rfl) (fun _ _ _ h => h) (Or.inl ⟨by rfl, ?_⟩) (by assumption) ?_
                  rotate_left
                  · intro w' hSw
                    try dsimp only at hSw
                    go_simp
                    try with_reducible rfl
                  try simp only [Act.put, List.setIfInBounds_toArray, List.set_cons_zero, List.set_cons_succ]
                  refine wpAnyH_take (i := 5) (oi := { dst := some 122, op := _, type := _, pos := _, after := _, guard := _ }) (v := ?_) rfl (by kernel_rfl) (by kernel_rfl) (by kernel_rfl) (fun _ _ _ h => h) (Or.inl ⟨by rfl, ?_⟩) (by assumption) ?_
                  rotate_left
                  · intro w' hSw
                    try dsimp only at hSw
                    go_simp
                    try with_reducible rfl
                  try simp only [Act.put, List.setIfInBounds_toArray, List.set_cons_zero, List.set_cons_succ]
                  refine wpAnyH_take (i := 6) (oi := { dst := some 123, op := _, type := _, pos := _, after := _, guard := _ }) (v := ?_) rfl (by kernel_rfl) (by kernel_rfl) (by kernel_rfl) (fun _ _ _ h => h) (Or.inl ⟨by rfl, ?_⟩) (by assumption) ?_
                  rotate_left
                  · intro w' hSw
                    try dsimp only at hSw
                    go_simp
                    try with_reducible rfl
                  try simp only [Act.put, List.setIfInBounds_toArray, List.set_cons_zero, List.set_cons_succ]
                  refine wpAnyH_take (i := 7) (oi := { dst := some 124, op := _, type := _, pos := _, after := _, guard := _ }) (v := ?_) rfl (by kernel_rfl) (by kernel_rfl) (by kernel_rfl) (fun _ _ _ h => h) (Or.inl ⟨by rfl, ?_⟩) (by assumption) ?_
                  rotate_left
                  · intro w' hSw
                    try dsimp only at hSw
                    go_simp
                    try with_reducible rfl
                  try simp only [Act.put, List.setIfInBounds_toArray, List.set_cons_zero, List.set_cons_succ]
                  refine wpAnyH_take (i := 8) (oi := { dst := some 125, op := _, type := _, pos := _, after := _, guard := _ }) (v := ?_) rfl (by kernel_rfl) (by kernel_rfl) (by kernel_rfl) (fun _ _ _ h => h) (Or.inl ⟨by rfl, ?_⟩) (by assumption) ?_
                  rotate_left
                  · intro w' hSw
                    try dsimp only at hSw
                    go_simp
                    try with_reducible rfl
                  try simp only [Act.put, List.setIfInBounds_toArray, List.set_cons_zero, List.set_cons_succ]
                  refine wpAnyH_take (i := 9) (oi := { dst := some 126, op := _, type := _, pos := _, after := _, guard := _ }) (v := ?_) rfl (by kernel_rfl) (by kernel_rfl) (by kernel_rfl) (fun _ _ _ h => h) (Or.inl ⟨by rfl, ?_⟩) (by assumption) ?_
                  rotate_left
                  · intro w' hSw
                    try dsimp only at hSw
                    go_simp
                    try with_reducible rfl
                  try simp only [Act.put, List.setIfInBounds_toArray, List.set_cons_zero, List.set_cons_succ]
                  refine wpAnyH_take (i := 10) (oi := { dst := some 127, op := _, type := _, pos := _, after := _, guard := _ }) (v := ?_) rfl (by kernel_rfl) (by kernel_rfl) (by kernel_rfl) (fun _ _ _ h => h) (Or.inl ⟨by rfl, ?_⟩) (by assumption) ?_
                  rotate_left
                  · intro w' hSw
                    try dsimp only at hSw
                    go_simp
                    try with_reducible rfl
                  try simp only [Act.put, List.setIfInBounds_toArray, List.set_cons_zero, List.set_cons_succ]
                  refine wpAnyH_take (i := 11) (oi := { dst := some 17, op := _, type := _, pos := _, after := _, guard := _ }) (v := ?_) rfl (by kernel_rfl) (by kernel_rfl) (by kernel_rfl) (fun _ _ _ h => h) (Or.inl ⟨by rfl, ?_⟩) (by assumption) ?_
                  rotate_left
                  · intro w' hSw
                    try dsimp only at hSw
                    go_simp
                    try with_reducible rfl
                  try simp only [Act.put, List.setIfInBounds_toArray, List.set_cons_zero, List.set_cons_succ]
                  refine wpAnyH_done (by kernel_rfl) ?_ _
                  go_wp2_with fail
                  go_roundw
                  case rel => exact ⟨k + 1, _, F8, by omega, by go_num, Lib.hid (HS9.out.drewN 1), HOK8, HFL8, Lib.hid (below_drewN HB9.out 1)⟩
                  case measure => simp [intOf]; omega
                · have f1 : decide ((L : Int) + (RL k : Int) ≤ (S' : Int)) = false := decide_eq_false (by omega)
                  have f2 : ((d3 : Int) == (l : Int)) = false := by rw [beq_eq_false_iff_ne]; omega
                  have f3 : ((o3 : Int) != 0) = false := by rw [ho3]; rfl
                  clear hd3 hfit hrec ho3
                  go_wp2_with fail
                  refine wp_region_held_drew (S := fun W' => W'.cell? ⟨q8, 1, none⟩ = some (.slice (RA k) (RL k) (RC k)) ∧ W'.cell? ⟨gR, l, none⟩ = some (.slice (RA' l) L (RC' l))) (by kernel_rfl) ?_ (fun hHeld => ?_)
                  · go_keep
                  refine wpAnyH_take (i := 0) (oi := { dst := some 117, op := _, type := _, pos := _, after := _, guard := _ }) (v := ?_) rfl (by kernel_rfl) (by kernel_rfl) (by kernel_rfl) (fun _ _ _ h => h) (Or.inl ⟨by rfl, ?_⟩) (by assumption) ?_
                  rotate_left
                  · intro w' hSw
                    try dsimp only at hSw
                    go_simp
                    try with_reducible rfl
                  try simp only [Act.put, List.setIfInBounds_toArray, List.set_cons_zero, List.set_cons_succ]
                  refine wpAnyH_take (i := 1) (oi := { dst := some 118, op := _, type := _, pos := _, after := _, guard := _ }) (v := ?_) rfl (by kernel_rfl) (by kernel_rfl) (by kernel_rfl) (fun _ _ _ h => h) (Or.inl ⟨by rfl, ?_⟩) (by assumption) ?_
                  rotate_left
                  · intro w' hSw
                    try dsimp only at hSw
                    go_simp
                    try with_reducible rfl
                  try simp only [Act.put, List.setIfInBounds_toArray, List.set_cons_zero, List.set_cons_succ]
                  refine wpAnyH_take (i := 2) (oi := { dst := some 119, op := _, type := _, pos := _, after := _, guard := _ }) (v := ?_) rfl (by kernel_rfl) (by kernel_rfl) (by kernel_rfl) (fun _ _ _ h => h) (Or.inl ⟨by rfl, ?_⟩) (by assumption) ?_
                  rotate_left
                  · intro w' hSw
                    try dsimp only at hSw
                    go_simp
                    try with_reducible rfl
                  try simp only [Act.put, List.setIfInBounds_toArray, List.set_cons_zero, List.set_cons_succ]
                  refine wpAnyH_take (i := 3) (oi := { dst := some 120, op := _, type := _, pos := _, after := _, guard := _ }) (v := ?_) rfl (by kernel_rfl) (by kernel_rfl) (by kernel_rfl) (fun _ _ _ h => h) (Or.inl ⟨by rfl, ?_⟩) (by assumption) ?_
                  rotate_left
                  · intro w' hSw
                    try dsimp only at hSw
                    go_simp
                    try with_reducible rfl
                  try simp only [Act.put, List.setIfInBounds_toArray, List.set_cons_zero, List.set_cons_succ]
                  refine wpAnyH_take (i := 4) (oi := { dst := some 121, op := _, type := _, pos := _, after := _, guard := _ }) (v := ?_) rfl (by kernel_rfl) (by kernel_rfl) (by kernel_rfl) (fun _ _ _ h => h) (Or.inl ⟨by rfl, ?_⟩) (by assumption) ?_
                  rotate_left
                  · intro w' hSw
                    try dsimp only at hSw
                    go_simp
                    try with_reducible rfl
                  try simp only [Act.put, List.setIfInBounds_toArray, List.set_cons_zero, List.set_cons_succ]
                  refine wpAnyH_take (i := 5) (oi := { dst := some 122, op := _, type := _, pos := _, after := _, guard := _ }) (v := ?_) rfl (by kernel_rfl) (by kernel_rfl) (by kernel_rfl) (fun _ _ _ h => h) (Or.inl ⟨by rfl, ?_⟩) (by assumption) ?_
                  rotate_left
                  · intro w' hSw
                    try dsimp only at hSw
                    go_simp
                    try with_reducible rfl
                  try simp only [Act.put, List.setIfInBounds_toArray, List.set_cons_zero, List.set_cons_succ]
                  refine wpAnyH_take (i := 6) (oi := { dst := some 123, op := _, type := _, pos := _, after := _, guard := _ }) (v := ?_) rfl (by kernel_rfl) (by kernel_rfl) (by kernel_rfl) (fun _ _ _ h => h) (Or.inl ⟨by rfl, ?_⟩) (by assumption) ?_
                  rotate_left
                  · intro w' hSw
                    try dsimp only at hSw
                    go_simp
                    try with_reducible rfl
                  try simp only [Act.put, List.setIfInBounds_toArray, List.set_cons_zero, List.set_cons_succ]
                  refine wpAnyH_take (i := 7) (oi := { dst := some 124, op := _, type := _, pos := _, after := _, guard := _ }) (v := ?_) rfl (by kernel_rfl) (by kernel_rfl) (by kernel_rfl) (fun _ _ _ h => h) (Or.inl ⟨by rfl, ?_⟩) (by assumption) ?_
                  rotate_left
                  · intro w' hSw
                    try dsimp only at hSw
                    go_simp
                    try with_reducible rfl
                  try simp only [Act.put, List.setIfInBounds_toArray, List.set_cons_zero, List.set_cons_succ]
                  refine wpAnyH_take (i := 8) (oi := { dst := some 125, op := _, type := _, pos := _, after := _, guard := _ }) (v := ?_) rfl (by kernel_rfl) (by kernel_rfl) (by kernel_rfl) (fun _ _ _ h => h) (Or.inl ⟨by rfl, ?_⟩) (by assumption) ?_
                  rotate_left
                  · intro w' hSw
                    try dsimp only at hSw
                    go_simp
                    try with_reducible rfl
                  try simp only [Act.put, List.setIfInBounds_toArray, List.set_cons_zero, List.set_cons_succ]
                  refine wpAnyH_take (i := 9) (oi := { dst := some 126, op := _, type := _, pos := _, after := _, guard := _ }) (v := ?_) rfl (by kernel_rfl) (by kernel_rfl) (by kernel_rfl) (fun _ _ _ h => h) (Or.inl ⟨by rfl, ?_⟩) (by assumption) ?_
                  rotate_left
                  · intro w' hSw
                    try dsimp only at hSw
                    go_simp
                    try with_reducible rfl
                  try simp only [Act.put, List.setIfInBounds_toArray, List.set_cons_zero, List.set_cons_succ]
                  refine wpAnyH_take (i := 10) (oi := { dst := some 127, op := _, type := _, pos := _, after := _, guard := _ }) (v := ?_) rfl (by kernel_rfl) (by kernel_rfl) (by kernel_rfl) (fun _ _ _ h => h) (Or.inl ⟨by rfl, ?_⟩) (by assumption) ?_
                  rotate_left
                  · intro w' hSw
                    try dsimp only at hSw
                    go_simp
                    try with_reducible rfl
                  try simp only [Act.put, List.setIfInBounds_toArray, List.set_cons_zero, List.set_cons_succ]
                  refine wpAnyH_take (i := 11) (oi := { dst := some 17, op := _, type := _, pos := _, after := _, guard := _ }) (v := ?_) rfl (by kernel_rfl) (by kernel_rfl) (by kernel_rfl) (fun _ _ _ h => h) (Or.inl ⟨by rfl, ?_⟩) (by assumption) ?_
                  rotate_left
                  · intro w' hSw
                    try dsimp only at hSw
                    go_simp
                    try with_reducible rfl
                  try simp only [Act.put, List.setIfInBounds_toArray, List.set_cons_zero, List.set_cons_succ]
                  refine wpAnyH_done (by kernel_rfl) ?_ _
                  go_wp2_with fail
                  go_roundw
                  case rel => exact ⟨k + 1, _, F8, by omega, by go_num, Lib.hid (HS9.out.drewN 1), HOK8, HFL8, Lib.hid (below_drewN HB9.out 1)⟩
                  case measure => simp [intOf]; omega
            · have k1 : ((K k : Int) != 1) = true := by rw [bne_iff_ne]; exact hK1
              clear hK0 hK1
              go_wp2_with fail
              refine (Data_c HS6.out HOK.out hS6 (by have := hfl; omega) HR6.out HFAR.out).mono ?_
              rintro e W7 hq
              obtain ⟨F7, rfl, hk7, hs7, hf7⟩ := hq.use
              rw [HE1v.out]
              have hba := (Below.refl W7.heap.size W7).alloc (Nat.le_refl _) (.cells #[.int .i64 (d1 : Int), .int .i64 (o1' : Int)] 37)
              have hfx7 := (hk7.blk HFX.out HNX.out)
              have hfx8 := hfx7.below hfx7.lt hba
              have y0' : (W7.alloc (.cells #[.int .i64 (d1 : Int), .int .i64 (o1' : Int)] 37)).cell? ⟨x, 0, none⟩ = some (.int .i64 d1) := hfx8.cell 0
              have y1' : (W7.alloc (.cells #[.int .i64 (d1 : Int), .int .i64 (o1' : Int)] 37)).cell? ⟨x, 1, none⟩ = some (.int .i64 o1') := hfx8.cell 1
              have HS8 := Lib.hid (hs7.below hba)
              have HB7 := HB6.out.trans (HS6.out.belowW hk7 HBS.out HB6.out.size)
              have HB8 := Lib.hid (HB7.trans (hba.mono HB7.size))
              have HOK8 := Lib.hid (HOK.out.data (show 1 ≤ S' by omega) (R k))
              have HFL8 : Hid ((vdata S' v (R k)).flat.length ≤ 4 + 60 * (k + 1)) := vdata_flat_le (R k) hFl.out (by rw [hlenR]; exact hlk)
              clear hq hk7 hs7 hf7 hba hfx7 hfx8 HB7 z80 z81 y0 y1 x0 x1 HS6 HA6 HR6 HK86 HB6 HFX HFY
              unfold plV plC
              go_wp2_with fail
              go_roundw
              case rel => exact ⟨k + 1, _, F7, by omega, by go_num, HS8, HOK8, HFL8, HB8⟩
              case measure => simp [intOf]; omega
    · obtain rfl : k = n := by omega
      go_wp2
      go_ret
      exact ⟨rfl, hb.out⟩
set_option maxHeartbeats 2000000 in
theorem walk_SpanNexts (w : World) (a : Int) (ha : (Lit.int .i64 a).wf = true) (A : Option Addr) (n cap : Nat) (K : Nat → Int) (RA : Nat → Option Addr) (RL RC : Nat → Nat) (R : Nat → List F) (h : OIn w A n cap K RA RL RC R) :
    Calls Try.prog 6 #[.int .i64 a, .slice A n cap] w fun e w' => e = .returned (.bool true) ∧ Below w.heap.size w w' := by
  by_cases hm : fewO n RL ∧ 5 ≤ a ∧ a ≤ 16777216
  · obtain ⟨hf, h5, h6⟩ := hm
    obtain ⟨S, rfl⟩ : ∃ S : Nat, a = (S : Int) := ⟨a.toNat, by omega⟩
    exact nexts_main w S 0 n cap A K RA RL RC R h hf (by omega) (by omega)
  · have H := Lib.hid h
    obtain ⟨fv, hfv⟩ : ∃ fv, fv = decide (fewO n RL) := ⟨_, rfl⟩
    have HFV := Lib.hid hfv
    have HM := Lib.hid hm
    clear h hm hfv
    go_enter Try.func6, Try.ntmps6
    go_wp2_with fail
    refine (alive22_c _).mono ?_
    rintro e W1 ⟨rfl, hb1⟩
    have HB1 := Lib.hid hb1
    clear hb1
    go_wp2_with fail
    refine (New_c a ha W1).mono ?_
    rintro e W2 (⟨hno, rfl, hb2⟩ | ⟨S', p, rfl, h5, h6, rfl, hb2, hs2⟩)
    · have HB2 := Lib.hid (HB1.out.trans (hb2.mono HB1.out.size))
      have e1 : chkS a = 1 := by unfold chkS at hno ⊢; split <;> simp_all
      rw [e1]
      clear hb2 hno e1 HM
      go_wp2_with fail
      refine (few22_c (H.out.below HB2.out)).mono ?_
      rintro e W3 ⟨rfl, hb3⟩
      rw [← HFV.out]
      have HB3 := Lib.hid (HB2.out.trans (hb3.mono HB2.out.size))
      clear hb3
      cases fv
      · go_wp2
        go_ret
        exact ⟨rfl, HB3.out⟩
      · go_wp2
        go_ret
        exact ⟨rfl, HB3.out⟩
    · have HB2 := Lib.hid (HB1.out.trans (hb2.mono HB1.out.size))
      have HD : Hid (fv = false) := by
        unfold Hid
        rw [HFV.out]
        exact decide_eq_false fun hf => HM.out ⟨hf, by omega, by omega⟩
      clear hb2 HM hs2
      go_wp2_with fail
      refine (few22_c (H.out.below HB2.out)).mono ?_
      rintro e W3 ⟨rfl, hb3⟩
      rw [← HFV.out, HD.out]
      have HB3 := Lib.hid (HB2.out.trans (hb3.mono HB2.out.size))
      clear hb3
      go_wp2
      go_ret
      exact ⟨rfl, HB3.out⟩
end Go.Proofs.Ytkijagodedmipaa
