/-
  LAW 22: the document's own Data: byte by byte. Conditions: right volumes.
-/
import Derived.Test.YtkijagodedmipaaSpm
namespace Go.Proofs.Ytkijagodedmipaa
open Go.RowKit
set_option maxRecDepth 100000
set_option linter.unusedVariables false

theorem results_cell_cell {fn : Func} {p u : Tmp} {ty tz : TypeId} (h : fn.results = #[.cell p ty, .cell u tz]) (tmps : Array Value) (P : Program) (w : World) :
    (results fn tmps).run P w =
      ((asAddr (tmps.getD p undef)).run P w).andThen fun a w₁ => ((loadVar ty a).run P w₁).andThen fun v w₂ => ((asAddr (tmps.getD u undef)).run P w₂).andThen fun b w₃ => ((loadVar tz b).run P w₃).andThen fun x w₄ => .ok (.tuple #[v, x]) w₄ := by
  simp only [results, h]
  simp [Sem.run_bind, Result.andThen]
theorem results_cell_cell_tmp {fn : Func} {p u t : Tmp} {ty tz : TypeId} (h : fn.results = #[.cell p ty, .cell u tz, .tmp t]) (tmps : Array Value) (P : Program) (w : World) :
    (results fn tmps).run P w =
      ((asAddr (tmps.getD p undef)).run P w).andThen fun a w₁ => ((loadVar ty a).run P w₁).andThen fun v w₂ => ((asAddr (tmps.getD u undef)).run P w₂).andThen fun b w₃ => ((loadVar tz b).run P w₃).andThen fun x w₄ => .ok (.tuple #[v, x, tmps.getD t undef]) w₄ := by
  simp only [results, h]
  simp [Sem.run_bind, Result.andThen]
theorem Dw.box {G : Nat → Prop} {w : World} {v : Vs} {A : Option Addr} {c : Nat} (h : Dw G w v A c) {q : Nat} {T : TypeId} {a b : Value} (hK : Blk w q T #[a, b]) (ha : ∀ x, a ≠ .int .u8 x) (hb : ∀ x, b ≠ .int .u8 x) (hA : ∀ y o, A = some ⟨y, o, none⟩ → y ≠ q) (D : Array Value) : Dw G (w.setRow q D) v A c := by
  obtain ⟨RA, RC, h, hgg⟩ := h
  refine ⟨RA, RC, ⟨h.le, h.max, fun hn => ?_, fun r hr => ?_⟩, hgg⟩
  · obtain ⟨y, off, e, hl, hc⟩ := h.top hn
    exact ⟨y, off, e, by rw [World.size_setRow]; exact hl, fun r hr => (cell_setRow_ne (hA y off e) _).trans (hc r hr)⟩
  · have h9 := MIn.row h r hr
    refine ⟨?_, h9.le, h9.max⟩
    rcases Nat.eq_zero_or_pos (vrow v r).length with h0 | h0
    · have e : vrow v r = [] := List.eq_nil_of_length_eq_zero h0
      show Row _ _ (vrow v r).length _
      rw [e]
      exact Row.nil _ _
    · refine h9.row.blk (by rw [World.size_setRow]; exact Nat.le_refl _) fun y o e hl => heap_setRow_ne (fun e2 => ?_) _
      obtain ⟨y2, o2, e3, _, hc⟩ := h9.row.at_ (k := 0) h0
      rw [e] at e3
      injection e3 with e3
      injection e3 with e3 e4 _
      subst e3 e4 e2
      rw [hK.cell (o + 0)] at hc
      match o, hc with
      | 0, hc => exact ha _ (by simpa using hc)
      | 1, hc => exact hb _ (by simpa using hc)
      | o + 2, hc => simp at hc
theorem dput_data {S : Nat} {v : Vs} (hq : v.q.length ≤ S) (x : F) : dput v x (decide (v.q.length = S)) = vput S v [x] := by
  unfold dput vput
  by_cases e : v.q.length = S
  · rw [decide_eq_true e, if_pos rfl, if_neg (by simp; omega)]
  · rw [decide_eq_false e, if_neg (by decide), if_pos (by simp; omega)]
theorem drop_gt {b : List F} {i : Nat} (h : i < b.length) : b.drop i = gt b i :: b.drop (i + 1) := by
  rw [gt_lt h, List.drop_eq_getElem_cons h]
/-- what the document's Data answers -/
def DdR (G : Nat → Prop) (w : World) (S : Nat) (v : Vs) (b : List F) (e : Ending) (w' : World) : Prop :=
  ∃ A' c', e = .returned (.tuple #[dwV S A' ((vdata S v b).P.length + 1) c', plV (((vat S v 1).1 : Nat) : Int) (((vat S v 1).2 : Nat) : Int)]) ∧ Dw (fun y => G y ∨ w.heap.size ≤ y) w' (vdata S v b) A' c' ∧ Below w.heap.size w w'
set_option maxHeartbeats 8000000 in
theorem RData_c {G : Nat → Prop} {w : World} {S : Nat} {v : Vs} {A : Option Addr} {c : Nat} (h : Dw G w v A c) (hv : VOk S v) (hS : S ≤ 16777216) {B : Option Addr} {n cb : Nat} {b : List F} (hb : RowIn w B n cb b) (hm : v.flat.length + n ≤ 50000) :
    Calls Try.prog 14 #[dwV S A (v.P.length + 1) c, .slice B n cb] w fun e w' => DdR G w S v b e w' := by
  have hS1 : 1 ≤ S := Nat.le_trans hv.q1 hv.qS
  have hlen := hb.row.len
  have hnm := hb.row.max
  have hcnt0 := hv.count
  have H := Lib.hid h
  have HV := Lib.hid hv
  have HRB := Lib.hid hb
  have HM := Lib.hid (And.intro hlen hm)
  clear h hv hb hlen
  generalize hWn : v.P.length + 1 = n0 at *
  have HWN := Lib.hid hWn
  clear hWn
  unfold dwV
  have hb1 := (Below.refl w.heap.size w).alloc (Nat.le_refl _) (.cells #[.int .i64 S, .slice A n0 c] 31)
  have hb2 := hb1.alloc hb1.size (.cells #[.int .i64 0, .slice none 0 0] 31)
  have hb3 := hb2.alloc hb2.size (.cells #[.int .i64 0, .int .i64 0] 37)
  have hc2 := (Below.refl (w.alloc (.cells #[.int .i64 S, .slice A n0 c] 31)).heap.size _).alloc (Nat.le_refl _) (.cells #[.int .i64 0, .slice none 0 0] 31)
  have hc3 := (Below.refl ((w.alloc (.cells #[.int .i64 S, .slice A n0 c] 31)).alloc (.cells #[.int .i64 0, .slice none 0 0] 31)).heap.size _).alloc (Nat.le_refl _) (.cells #[.int .i64 0, .int .i64 0] 37)
  have hK2 := Blk.new w 31 #[.int .i64 S, .slice A n0 c]
  have hK4 := Blk.new (w.alloc (.cells #[.int .i64 S, .slice A n0 c] 31)) 31 #[.int .i64 0, .slice none 0 0]
  have hK5 := Blk.new ((w.alloc (.cells #[.int .i64 S, .slice A n0 c] 31)).alloc (.cells #[.int .i64 0, .slice none 0 0] 31)) 37 #[.int .i64 0, .int .i64 0]
  have hz : (w.alloc (.cells #[.int .i64 S, .slice A n0 c] 31)).heap.size = w.heap.size + 1 := by simp
  have hz2 : ((w.alloc (.cells #[.int .i64 S, .slice A n0 c] 31)).alloc (.cells #[.int .i64 0, .slice none 0 0] 31)).heap.size = w.heap.size + 1 + 1 := by simp
  have hz3 : (((w.alloc (.cells #[.int .i64 S, .slice A n0 c] 31)).alloc (.cells #[.int .i64 0, .slice none 0 0] 31)).alloc (.cells #[.int .i64 0, .int .i64 0] 37)).heap.size = w.heap.size + 1 + 1 + 1 := by simp
  rw [hz] at hK4
  rw [hz2] at hK5
  have hk23 := (hK2.below hK2.lt hc2).below (hK2.below hK2.lt hc2).lt hc3
  have hk43 := hK4.below hK4.lt hc3
  have hD3 := H.out.below hb3
  clear hb1 hb2 hc2 hc3 hK2 hK4 hz hz2
  go_enter Try.func14, Try.ntmps14
  generalize hG : ((w.alloc (.cells #[.int .i64 S, .slice A n0 c] 31)).alloc (.cells #[.int .i64 0, .slice none 0 0] 31)).alloc (.cells #[.int .i64 0, .int .i64 0] 37) = W3 at *
  have y20 : W3.cell? ⟨w.heap.size, 0, none⟩ = some (.int .i64 S) := hk23.cell 0
  have y21 : W3.cell? ⟨w.heap.size, 1, none⟩ = some (.slice A n0 c) := hk23.cell 1
  have HK2 := Lib.hid hk23
  have HK4 := Lib.hid hk43
  have HK5 := Lib.hid hK5
  have HB3 := Lib.hid hb3
  have HNX := Lib.hid (RNext_c hD3 HV.out hS (by omega) 1 (by omega))
  have HD3 := Lib.hid hD3
  have hsz3 : w.heap.size + 2 < W3.heap.size := by omega
  rw [HWN.out] at HNX
  unfold dwV at HNX
  clear hk23 hk43 hK5 hb3 hD3 hz3
  subst hG
  go_wp2_with fail
  refine HNX.out.mono ?_
  rintro e W4 ⟨rfl, hb4⟩
  obtain ⟨d, o, hdo⟩ : ∃ d o, vat S v 1 = (d, o) := ⟨_, _, rfl⟩
  rw [hdo]
  have HDO := Lib.hid hdo
  clear hdo HNX
  unfold plV plC
  go_wp2_with fail
  have hb5 := (Below.refl W4.heap.size W4).alloc (Nat.le_refl _) (.cells #[.int .i64 (d : Int), .int .i64 (o : Int)] 37)
  have hx := fun {g : Nat} {T : TypeId} {C : Array Value} (hk : Blk _ g T C) => ((hk.below hk.lt hb4).below (hk.below hk.lt hb4).lt hb5)
  have HK2' := Lib.hid (hx HK2.out)
  have HK4' := Lib.hid (hx HK4.out)
  have HK5' := Lib.hid (hx HK5.out)
  have HK6' := Lib.hid (Blk.new W4 37 #[.int .i64 (d : Int), .int .i64 (o : Int)])
  have HD5 := Lib.hid ((HD3.out.below hb4).below hb5)
  have HB5 := Lib.hid ((HB3.out.trans (hb4.mono HB3.out.size)).trans (hb5.mono (HB3.out.trans (hb4.mono HB3.out.size)).size))
  have HAF : Hid (∀ y p, A = some ⟨y, p, none⟩ → y < w.heap.size ∨ w.heap.size + 3 ≤ y) := fun y p e => by
    obtain ⟨RA, RC, h, _⟩ := H.out
    obtain ⟨b9, o9, e9, hl9, _⟩ := MIn.top h (by omega)
    rw [e] at e9
    injection e9 with e9
    injection e9 with e9 _ _
    exact .inl (by omega)
  have hq6 : w.heap.size + 2 < W4.heap.size := by have := hb4.size; omega
  clear hb4 hb5 hx HK2 HK4 HK5 HD3 HB3 y20 y21 hsz3
  generalize W4.alloc (.cells #[.int .i64 (d : Int), .int .i64 (o : Int)] 37) = W5 at *
  generalize W4.heap.size = q6 at *
  rw [← HWN.out] at HK2'
  go_loopw [7] (fun iv wr => ∃ (i : Nat) (v' : Vs) (A' : Option Addr) (c' : Nat), i ≤ n ∧ iv = .int .i64 i ∧ Hid (Blk wr w.heap.size 31 #[.int .i64 (S : Int), .slice A' (v'.P.length + 1) c']) ∧ Hid (Dw (fun y => G y ∨ w.heap.size ≤ y) wr v' A' c') ∧ Hid (∀ y p, A' = some ⟨y, p, none⟩ → y < w.heap.size ∨ w.heap.size + 3 ≤ y) ∧ Hid (VOk S v') ∧ Hid (vdata S v' (b.drop i) = vdata S v b) ∧ Hid (v'.flat.length ≤ v.flat.length + i) ∧ Hid (Below w.heap.size w wr) ∧ Hid (Blk wr (w.heap.size + 1) 31 #[.int .i64 0, .slice none 0 0]) ∧ Hid (Blk wr (w.heap.size + 1 + 1) 37 #[.int .i64 0, .int .i64 0]) ∧ Hid (Blk wr q6 37 #[.int .i64 (d : Int), .int .i64 (o : Int)])) (fun iv _ => n - (intOf iv).toNat)
  case atStart => exact ⟨0, v, A, c, by omega, rfl, HK2', Lib.hid (HD5.out.mono fun _ _ h => .inl h), HAF, HV, rfl, Nat.le_refl _, HB5, HK4', HK5', HK6'⟩
  case round =>
    clear HK2' HD5 HAF HB5 HK4' HK5' HK6'
    obtain ⟨i, v', A', c', hi, rfl, hk2, hD, hAF, hOk, hDa, hFl, hb, hk4, hk5, hk6⟩ := hrel
    by_cases hlt : i < n
    · have hin : (i : Int) < n := by omega
      have hm2 := HM.out.2
      have hfl := hFl.out
      have hcnt := hOk.out.count
      have hqS := hOk.out.qS
      obtain ⟨bB, oB, eB, hlB, zB⟩ := (HRB.out.row.below hb.out).at_ hlt
      have hnB : bB ≠ w.heap.size := by
        obtain ⟨b9, o9, e9, hl9, _⟩ := HRB.out.row.at_ hlt
        rw [eB] at e9
        injection e9 with e9
        injection e9 with e9 _ _
        omega
      subst eB
      obtain ⟨RA, RC, hMM, _⟩ := hD.out
      obtain ⟨bA, oA, eA, hlA, zA⟩ := hMM.at_ (r := v'.P.length) (by omega)
      have hneq : bB ≠ w.heap.size ∧ bA ≠ w.heap.size := ⟨hnB, by have := hAF.out bA oA eA; omega⟩
      subst eA
      rw [show (vrow v' v'.P.length).length = v'.q.length by rw [vrow_last]] at zA
      obtain ⟨nx, hnx⟩ : ∃ nx, nx = decide (v'.q.length = S) := ⟨_, rfl⟩
      have HPUT := Lib.hid (Rput_c (w := wr.drew) (S := S) (hD.out.below (Below.refl _ _).drew) (by omega) (by omega) (gt b i) nx)
      have y20 : wr.cell? ⟨w.heap.size, 0, none⟩ = some (.int .i64 S) := hk2.out.cell 0
      have y21 : wr.cell? ⟨w.heap.size, 1, none⟩ = some (.slice (some ⟨bA, oA, none⟩) (v'.P.length + 1) c') := hk2.out.cell 1
      have HVQ : Hid (dput v' (gt b i) nx = vput S v' [gt b i]) := by unfold Hid; rw [hnx]; exact dput_data hqS _
      have he : ((v'.q.length : Int) == (S : Int)) = nx := by
        rw [hnx]
        by_cases e : v'.q.length = S
        · rw [decide_eq_true e, beq_iff_eq]; omega
        · rw [decide_eq_false e, beq_eq_false_iff_ne]; omega
      obtain ⟨l, hl⟩ : ∃ l, l = v'.P.length := ⟨_, rfl⟩
      obtain ⟨L, hL⟩ : ∃ L, L = v'.q.length := ⟨_, rfl⟩
      rw [← hl] at zA y21 HPUT hk2
      rw [← hL] at zA he hqS
      generalize RA l = A1 at *
      generalize RC l = C1 at *
      have heN : (L == S) = nx := by rw [hnx, ← hL]; exact Bool.eq_iff_iff.2 (by simp)
      have hl5 : l ≤ 60000 := by omega
      have hwl : IntKind.i64.wrap (l : Int) = (l : Int) := IntWalk.i64_in _ (by omega)
      have HLL := Lib.hid hl
      have HLQ := Lib.hid hL
      have HNX := Lib.hid hnx
      have hqs2 := hk2.out.lt
      have i2 : (0 : Int) ≤ (l : Int) := by omega
      have i3 : (l : Int) < (l : Int) + 1 := by omega
      have i4 : (0 : Int) ≤ (i : Int) := by omega
      clear hMM hl hL hnx hcnt hfl hm2
      unfold dwV at HPUT
      go_wp2_with fail
      have hC00 : wr.drew.cell? ⟨w.heap.size, 0, none⟩ = some (.int .i64 (S : Int)) ∧ wr.drew.cell? ⟨bB, oB + i, none⟩ = some (.int .u8 (gt b i).n) ∧ wr.drew.cell? ⟨bA, oA + l, none⟩ = some (.slice A1 L C1) := ⟨y20, zB, zA⟩
      have hy0 : wr.drew.cell? ⟨w.heap.size, 0, none⟩ = some (.int .i64 S) := y20
      have hy1 : wr.drew.cell? ⟨w.heap.size, 1, none⟩ = some (.slice (some ⟨bA, oA, none⟩) (l + 1) c') := y21
      have hk2d : Blk wr.drew w.heap.size 31 #[.int .i64 (S : Int), .slice (some ⟨bA, oA, none⟩) (l + 1) c'] := hk2.out
      have hbd : Below wr.heap.size wr wr.drew := (Below.refl _ _).drew
      have hx4 := hk4.out.below hk4.out.lt hbd
      have hx5 := hk5.out.below hk5.out.lt hbd
      have hx6 := hk6.out.below hk6.out.lt hbd
      have hbw := hb.out.trans (hbd.mono hb.out.size)
      have hbB : bB < wr.drew.heap.size ∧ bA < wr.drew.heap.size := ⟨hlB, hlA⟩
      have hq2d : w.heap.size < wr.drew.heap.size := hqs2
      obtain ⟨V0, hVW⟩ : ∃ V0, V0 = wr.drew := ⟨_, rfl⟩
      have hC0 := hC00
      rw [← hVW] at hC0 hy0 hy1 hk2d hx4 hx5 hx6 hbw hbB hq2d HPUT
      have HX4 := Lib.hid hx4
      have HX5 := Lib.hid hx5
      have HX6 := Lib.hid hx6
      have HBW := Lib.hid hbw
      have HK2D := Lib.hid hk2d
      have HVW := Lib.hid hVW
      have HC00 := Lib.hid hC00
      clear hx4 hx5 hx6 hbw hbd hVW hk2d hC00 y20 y21 zA zB hlA hlB hk2 hD hb hk4 hk5 hk6 hqs2
      have hbS := hC0
      refine wp_region_held_drew (S := fun W' => W'.cell? ⟨w.heap.size, 0, none⟩ = some (.int .i64 (S : Int)) ∧ W'.cell? ⟨bB, oB + i, none⟩ = some (.int .u8 (gt b i).n) ∧ W'.cell? ⟨bA, oA + l, none⟩ = some (.slice A1 L C1)) (by kernel_rfl) HC00.out (fun _ => ?_)
      rw [← HVW.out]
      refine wpAnyH_take (i := 1) (oi := { dst := some 17, op := _, type := _, pos := _, after := _, guard := _ }) (v := ?_) rfl (by kernel_rfl) (by kernel_rfl) (by kernel_rfl) (fun _ _ _ h => h) (Or.inl ⟨by rfl, ?_⟩) (by assumption) ?_
      rotate_left
      · intro w' hSw
        try dsimp only at hSw
        go_simp
        try with_reducible rfl
      try simp only [Act.put, List.setIfInBounds_toArray, List.set_cons_zero, List.set_cons_succ]
      refine wpAnyH_take (i := 2) (oi := { dst := some 18, op := _, type := _, pos := _, after := _, guard := _ }) (v := ?_) rfl (by kernel_rfl) (by kernel_rfl) (by kernel_rfl) (fun _ _ _ h => h) (Or.inl ⟨by rfl, ?_⟩) (by assumption) ?_
      rotate_left
      · intro w' hSw
        try dsimp only at hSw
        go_simp
        try with_reducible rfl
      try simp only [Act.put, List.setIfInBounds_toArray, List.set_cons_zero, List.set_cons_succ]
      refine wpAnyH_take (i := 3) (oi := { dst := some 19, op := _, type := _, pos := _, after := _, guard := _ }) (v := ?_) rfl (by kernel_rfl) (by kernel_rfl) (by kernel_rfl) (fun _ _ _ h => h) (Or.inl ⟨by rfl, ?_⟩) (by assumption) ?_
      rotate_left
      · intro w' hSw
        try dsimp only at hSw
        go_simp
        try with_reducible rfl
      try simp only [Act.put, List.setIfInBounds_toArray, List.set_cons_zero, List.set_cons_succ]
      refine wpAnyH_take (i := 4) (oi := { dst := some 20, op := _, type := _, pos := _, after := _, guard := _ }) (v := ?_) rfl (by kernel_rfl) (by kernel_rfl) (by kernel_rfl) (fun _ _ _ h => h) (Or.inl ⟨by rfl, ?_⟩) (by assumption) ?_
      rotate_left
      · intro w' hSw
        try dsimp only at hSw
        go_simp
        try with_reducible rfl
      try simp only [Act.put, List.setIfInBounds_toArray, List.set_cons_zero, List.set_cons_succ]
      refine wpAnyH_take (i := 5) (oi := { dst := some 21, op := _, type := _, pos := _, after := _, guard := _ }) (v := ?_) rfl (by kernel_rfl) (by kernel_rfl) (by kernel_rfl) (fun _ _ _ h => h) (Or.inl ⟨by rfl, ?_⟩) (by assumption) ?_
      rotate_left
      · intro w' hSw
        try dsimp only at hSw
        go_simp
        try with_reducible rfl
      try simp only [Act.put, List.setIfInBounds_toArray, List.set_cons_zero, List.set_cons_succ]
      refine wpAnyH_take (i := 7) (oi := { dst := some 23, op := _, type := _, pos := _, after := _, guard := _ }) (v := ?_) rfl (by kernel_rfl) (by kernel_rfl) (by kernel_rfl) (fun _ _ _ h => h) (Or.inl ⟨by rfl, ?_⟩) (by assumption) ?_
      rotate_left
      · intro w' hSw
        try dsimp only at hSw
        go_simp
        try with_reducible rfl
      try simp only [Act.put, List.setIfInBounds_toArray, List.set_cons_zero, List.set_cons_succ]
      refine wpAnyH_take (i := 14) (oi := { dst := some 30, op := _, type := _, pos := _, after := _, guard := _ }) (v := ?_) rfl (by kernel_rfl) (by kernel_rfl) (by kernel_rfl) (fun _ _ _ h => h) (Or.inl ⟨by rfl, ?_⟩) (by assumption) ?_
      rotate_left
      · intro w' hSw
        try dsimp only at hSw
        go_simp
        try with_reducible rfl
      try simp only [Act.put, List.setIfInBounds_toArray, List.set_cons_zero, List.set_cons_succ]
      refine wpAnyH_take (i := 15) (oi := { dst := some 31, op := _, type := _, pos := _, after := _, guard := _ }) (v := ?_) rfl (by kernel_rfl) (by kernel_rfl) (by kernel_rfl) (fun _ _ _ h => h) (Or.inl ⟨by rfl, ?_⟩) (by assumption) ?_
      rotate_left
      · intro w' hSw
        try dsimp only at hSw
        go_simp
        try with_reducible rfl
      try simp only [Act.put, List.setIfInBounds_toArray, List.set_cons_zero, List.set_cons_succ]
      refine cut_in (Z := ?Zm) ?f ?z
      case f =>
        intro hREST
        have hRESTo := Lib.hid hREST
        clear hREST
        refine wpAnyH_ready (rs := [0, 6, 8]) (by kernel_rfl) (by simp) ?_
        refine AllReadyH.cons (o := { dst := some 16, op := _, type := _, pos := _, after := _, guard := _ }) rfl (fun K hK => ?_) (AllReadyH.cons (o := { dst := some 22, op := _, type := _, pos := _, after := _, guard := _ }) rfl (fun K hK => ?_) (AllReadyH.cons (o := { dst := some 24, op := _, type := _, pos := _, after := _, guard := _ }) rfl (fun K hK => ?_) (AllReadyH.nil)))
        · skip
          go_simp
          refine hK.out _ _ hbS (fun _ => ?_)
          clear hK K
          try simp only [Act.put, List.setIfInBounds_toArray, List.set_cons_zero, List.set_cons_succ]
          refine wpAnyH_ready (rs := [6, 8]) (by kernel_rfl) (by simp) ?_
          refine AllReadyH.cons (o := { dst := some 22, op := _, type := _, pos := _, after := _, guard := _ }) rfl (fun K hK => ?_) (AllReadyH.cons (o := { dst := some 24, op := _, type := _, pos := _, after := _, guard := _ }) rfl (fun K hK => ?_) (AllReadyH.nil))
          · skip
            go_simp
            refine hK.out _ _ hbS (fun _ => ?_)
            clear hK K
            try simp only [Act.put, List.setIfInBounds_toArray, List.set_cons_zero, List.set_cons_succ]
            refine wpAnyH_ready (rs := [8]) (by kernel_rfl) (by simp) ?_
            refine AllReadyH.cons (o := { dst := some 24, op := _, type := _, pos := _, after := _, guard := _ }) rfl (fun K hK => ?_) (AllReadyH.nil)
            go_simp
            refine hK.out _ _ hbS (fun _ => ?_)
            clear hK K
            try simp only [Act.put, List.setIfInBounds_toArray, List.set_cons_zero, List.set_cons_succ]
            refine wpAnyH_take (i := 9) (oi := { dst := some 25, op := _, type := _, pos := _, after := _, guard := _ }) (v := ?_) rfl (by kernel_rfl) (by kernel_rfl) (by kernel_rfl) (fun _ _ _ h => h) (Or.inl ⟨by rfl, ?_⟩) (by assumption) ?_
            rotate_left
            · intro w' hSw
              try dsimp only at hSw
              go_simp
              try with_reducible rfl
            try simp only [Act.put, List.setIfInBounds_toArray, List.set_cons_zero, List.set_cons_succ]
            refine wpAnyH_take (i := 10) (oi := { dst := some 26, op := _, type := _, pos := _, after := _, guard := _ }) (v := ?_) rfl (by kernel_rfl) (by kernel_rfl) (by kernel_rfl) (fun _ _ _ h => h) (Or.inl ⟨by rfl, ?_⟩) (by assumption) ?_
            rotate_left
            · intro w' hSw
              try dsimp only at hSw
              go_simp
              try with_reducible rfl
            try simp only [Act.put, List.setIfInBounds_toArray, List.set_cons_zero, List.set_cons_succ]
            refine wpAnyH_take (i := 11) (oi := { dst := some 27, op := _, type := _, pos := _, after := _, guard := _ }) (v := ?_) rfl (by kernel_rfl) (by kernel_rfl) (by kernel_rfl) (fun _ _ _ h => h) (Or.inl ⟨by rfl, ?_⟩) (by assumption) ?_
            rotate_left
            · intro w' hSw
              try dsimp only at hSw
              go_simp
              try with_reducible rfl
            try simp only [Act.put, List.setIfInBounds_toArray, List.set_cons_zero, List.set_cons_succ]
            refine wpAnyH_take (i := 12) (oi := { dst := some 28, op := _, type := _, pos := _, after := _, guard := _ }) (v := ?_) rfl (by kernel_rfl) (by kernel_rfl) (by kernel_rfl) (fun _ _ _ h => h) (Or.inl ⟨by rfl, ?_⟩) (by assumption) ?_
            rotate_left
            · intro w' hSw
              try dsimp only at hSw
              go_simp
              try with_reducible rfl
            try simp only [Act.put, List.setIfInBounds_toArray, List.set_cons_zero, List.set_cons_succ]
            refine wpAnyH_take (i := 13) (oi := { dst := some 29, op := _, type := _, pos := _, after := _, guard := _ }) (v := ?_) rfl (by kernel_rfl) (by kernel_rfl) (by kernel_rfl) (fun _ _ _ h => h) (Or.inl ⟨by rfl, ?_⟩) (by assumption) ?_
            rotate_left
            · intro w' hSw
              try dsimp only at hSw
              go_simp
              try with_reducible rfl
            try simp only [Act.put, List.setIfInBounds_toArray, List.set_cons_zero, List.set_cons_succ]
            refine wpAnyH_take (i := 16) (oi := { dst := some 32, op := _, type := _, pos := _, after := _, guard := _ }) (v := ?_) rfl (by kernel_rfl) (by kernel_rfl) (by kernel_rfl) (fun _ _ _ h => h) (Or.inl ⟨by rfl, ?_⟩) (by assumption) ?_
            rotate_left
            · intro w' hSw
              try dsimp only at hSw
              go_simp
              try with_reducible rfl
            try simp only [Act.put, List.setIfInBounds_toArray, List.set_cons_zero, List.set_cons_succ]
            exact hRESTo.out.out
          · skip
            go_simp
            refine hK.out _ _ hbS (fun _ => ?_)
            clear hK K
            try simp only [Act.put, List.setIfInBounds_toArray, List.set_cons_zero, List.set_cons_succ]
            refine wpAnyH_take (i := 9) (oi := { dst := some 25, op := _, type := _, pos := _, after := _, guard := _ }) (v := ?_) rfl (by kernel_rfl) (by kernel_rfl) (by kernel_rfl) (fun _ _ _ h => h) (Or.inl ⟨by rfl, ?_⟩) (by assumption) ?_
            rotate_left
            · intro w' hSw
              try dsimp only at hSw
              go_simp
              try with_reducible rfl
            try simp only [Act.put, List.setIfInBounds_toArray, List.set_cons_zero, List.set_cons_succ]
            refine wpAnyH_take (i := 10) (oi := { dst := some 26, op := _, type := _, pos := _, after := _, guard := _ }) (v := ?_) rfl (by kernel_rfl) (by kernel_rfl) (by kernel_rfl) (fun _ _ _ h => h) (Or.inl ⟨by rfl, ?_⟩) (by assumption) ?_
            rotate_left
            · intro w' hSw
              try dsimp only at hSw
              go_simp
              try with_reducible rfl
            try simp only [Act.put, List.setIfInBounds_toArray, List.set_cons_zero, List.set_cons_succ]
            refine wpAnyH_ready (rs := [6]) (by kernel_rfl) (by simp) ?_
            refine AllReadyH.cons (o := { dst := some 22, op := _, type := _, pos := _, after := _, guard := _ }) rfl (fun K hK => ?_) (AllReadyH.nil)
            go_simp
            refine hK.out _ _ hbS (fun _ => ?_)
            clear hK K
            try simp only [Act.put, List.setIfInBounds_toArray, List.set_cons_zero, List.set_cons_succ]
            refine wpAnyH_take (i := 11) (oi := { dst := some 27, op := _, type := _, pos := _, after := _, guard := _ }) (v := ?_) rfl (by kernel_rfl) (by kernel_rfl) (by kernel_rfl) (fun _ _ _ h => h) (Or.inl ⟨by rfl, ?_⟩) (by assumption) ?_
            rotate_left
            · intro w' hSw
              try dsimp only at hSw
              go_simp
              try with_reducible rfl
            try simp only [Act.put, List.setIfInBounds_toArray, List.set_cons_zero, List.set_cons_succ]
            refine wpAnyH_take (i := 12) (oi := { dst := some 28, op := _, type := _, pos := _, after := _, guard := _ }) (v := ?_) rfl (by kernel_rfl) (by kernel_rfl) (by kernel_rfl) (fun _ _ _ h => h) (Or.inl ⟨by rfl, ?_⟩) (by assumption) ?_
            rotate_left
            · intro w' hSw
              try dsimp only at hSw
              go_simp
              try with_reducible rfl
            try simp only [Act.put, List.setIfInBounds_toArray, List.set_cons_zero, List.set_cons_succ]
            refine wpAnyH_take (i := 13) (oi := { dst := some 29, op := _, type := _, pos := _, after := _, guard := _ }) (v := ?_) rfl (by kernel_rfl) (by kernel_rfl) (by kernel_rfl) (fun _ _ _ h => h) (Or.inl ⟨by rfl, ?_⟩) (by assumption) ?_
            rotate_left
            · intro w' hSw
              try dsimp only at hSw
              go_simp
              try with_reducible rfl
            try simp only [Act.put, List.setIfInBounds_toArray, List.set_cons_zero, List.set_cons_succ]
            refine wpAnyH_take (i := 16) (oi := { dst := some 32, op := _, type := _, pos := _, after := _, guard := _ }) (v := ?_) rfl (by kernel_rfl) (by kernel_rfl) (by kernel_rfl) (fun _ _ _ h => h) (Or.inl ⟨by rfl, ?_⟩) (by assumption) ?_
            rotate_left
            · intro w' hSw
              try dsimp only at hSw
              go_simp
              try with_reducible rfl
            try simp only [Act.put, List.setIfInBounds_toArray, List.set_cons_zero, List.set_cons_succ]
            exact hRESTo.out.out
        · skip
          go_simp
          refine hK.out _ _ hbS (fun _ => ?_)
          clear hK K
          try simp only [Act.put, List.setIfInBounds_toArray, List.set_cons_zero, List.set_cons_succ]
          refine wpAnyH_ready (rs := [0, 8]) (by kernel_rfl) (by simp) ?_
          refine AllReadyH.cons (o := { dst := some 16, op := _, type := _, pos := _, after := _, guard := _ }) rfl (fun K hK => ?_) (AllReadyH.cons (o := { dst := some 24, op := _, type := _, pos := _, after := _, guard := _ }) rfl (fun K hK => ?_) (AllReadyH.nil))
          · skip
            go_simp
            refine hK.out _ _ hbS (fun _ => ?_)
            clear hK K
            try simp only [Act.put, List.setIfInBounds_toArray, List.set_cons_zero, List.set_cons_succ]
            refine wpAnyH_ready (rs := [8]) (by kernel_rfl) (by simp) ?_
            refine AllReadyH.cons (o := { dst := some 24, op := _, type := _, pos := _, after := _, guard := _ }) rfl (fun K hK => ?_) (AllReadyH.nil)
            go_simp
            refine hK.out _ _ hbS (fun _ => ?_)
            clear hK K
            try simp only [Act.put, List.setIfInBounds_toArray, List.set_cons_zero, List.set_cons_succ]
            refine wpAnyH_take (i := 9) (oi := { dst := some 25, op := _, type := _, pos := _, after := _, guard := _ }) (v := ?_) rfl (by kernel_rfl) (by kernel_rfl) (by kernel_rfl) (fun _ _ _ h => h) (Or.inl ⟨by rfl, ?_⟩) (by assumption) ?_
            rotate_left
            · intro w' hSw
              try dsimp only at hSw
              go_simp
              try with_reducible rfl
            try simp only [Act.put, List.setIfInBounds_toArray, List.set_cons_zero, List.set_cons_succ]
            refine wpAnyH_take (i := 10) (oi := { dst := some 26, op := _, type := _, pos := _, after := _, guard := _ }) (v := ?_) rfl (by kernel_rfl) (by kernel_rfl) (by kernel_rfl) (fun _ _ _ h => h) (Or.inl ⟨by rfl, ?_⟩) (by assumption) ?_
            rotate_left
            · intro w' hSw
              try dsimp only at hSw
              go_simp
              try with_reducible rfl
            try simp only [Act.put, List.setIfInBounds_toArray, List.set_cons_zero, List.set_cons_succ]
            refine wpAnyH_take (i := 11) (oi := { dst := some 27, op := _, type := _, pos := _, after := _, guard := _ }) (v := ?_) rfl (by kernel_rfl) (by kernel_rfl) (by kernel_rfl) (fun _ _ _ h => h) (Or.inl ⟨by rfl, ?_⟩) (by assumption) ?_
            rotate_left
            · intro w' hSw
              try dsimp only at hSw
              go_simp
              try with_reducible rfl
            try simp only [Act.put, List.setIfInBounds_toArray, List.set_cons_zero, List.set_cons_succ]
            refine wpAnyH_take (i := 12) (oi := { dst := some 28, op := _, type := _, pos := _, after := _, guard := _ }) (v := ?_) rfl (by kernel_rfl) (by kernel_rfl) (by kernel_rfl) (fun _ _ _ h => h) (Or.inl ⟨by rfl, ?_⟩) (by assumption) ?_
            rotate_left
            · intro w' hSw
              try dsimp only at hSw
              go_simp
              try with_reducible rfl
            try simp only [Act.put, List.setIfInBounds_toArray, List.set_cons_zero, List.set_cons_succ]
            refine wpAnyH_take (i := 13) (oi := { dst := some 29, op := _, type := _, pos := _, after := _, guard := _ }) (v := ?_) rfl (by kernel_rfl) (by kernel_rfl) (by kernel_rfl) (fun _ _ _ h => h) (Or.inl ⟨by rfl, ?_⟩) (by assumption) ?_
            rotate_left
            · intro w' hSw
              try dsimp only at hSw
              go_simp
              try with_reducible rfl
            try simp only [Act.put, List.setIfInBounds_toArray, List.set_cons_zero, List.set_cons_succ]
            refine wpAnyH_take (i := 16) (oi := { dst := some 32, op := _, type := _, pos := _, after := _, guard := _ }) (v := ?_) rfl (by kernel_rfl) (by kernel_rfl) (by kernel_rfl) (fun _ _ _ h => h) (Or.inl ⟨by rfl, ?_⟩) (by assumption) ?_
            rotate_left
            · intro w' hSw
              try dsimp only at hSw
              go_simp
              try with_reducible rfl
            try simp only [Act.put, List.setIfInBounds_toArray, List.set_cons_zero, List.set_cons_succ]
            exact hRESTo.out.out
          · skip
            go_simp
            refine hK.out _ _ hbS (fun _ => ?_)
            clear hK K
            try simp only [Act.put, List.setIfInBounds_toArray, List.set_cons_zero, List.set_cons_succ]
            refine wpAnyH_take (i := 9) (oi := { dst := some 25, op := _, type := _, pos := _, after := _, guard := _ }) (v := ?_) rfl (by kernel_rfl) (by kernel_rfl) (by kernel_rfl) (fun _ _ _ h => h) (Or.inl ⟨by rfl, ?_⟩) (by assumption) ?_
            rotate_left
            · intro w' hSw
              try dsimp only at hSw
              go_simp
              try with_reducible rfl
            try simp only [Act.put, List.setIfInBounds_toArray, List.set_cons_zero, List.set_cons_succ]
            refine wpAnyH_take (i := 10) (oi := { dst := some 26, op := _, type := _, pos := _, after := _, guard := _ }) (v := ?_) rfl (by kernel_rfl) (by kernel_rfl) (by kernel_rfl) (fun _ _ _ h => h) (Or.inl ⟨by rfl, ?_⟩) (by assumption) ?_
            rotate_left
            · intro w' hSw
              try dsimp only at hSw
              go_simp
              try with_reducible rfl
            try simp only [Act.put, List.setIfInBounds_toArray, List.set_cons_zero, List.set_cons_succ]
            refine wpAnyH_take (i := 11) (oi := { dst := some 27, op := _, type := _, pos := _, after := _, guard := _ }) (v := ?_) rfl (by kernel_rfl) (by kernel_rfl) (by kernel_rfl) (fun _ _ _ h => h) (Or.inl ⟨by rfl, ?_⟩) (by assumption) ?_
            rotate_left
            · intro w' hSw
              try dsimp only at hSw
              go_simp
              try with_reducible rfl
            try simp only [Act.put, List.setIfInBounds_toArray, List.set_cons_zero, List.set_cons_succ]
            refine wpAnyH_take (i := 12) (oi := { dst := some 28, op := _, type := _, pos := _, after := _, guard := _ }) (v := ?_) rfl (by kernel_rfl) (by kernel_rfl) (by kernel_rfl) (fun _ _ _ h => h) (Or.inl ⟨by rfl, ?_⟩) (by assumption) ?_
            rotate_left
            · intro w' hSw
              try dsimp only at hSw
              go_simp
              try with_reducible rfl
            try simp only [Act.put, List.setIfInBounds_toArray, List.set_cons_zero, List.set_cons_succ]
            refine wpAnyH_take (i := 13) (oi := { dst := some 29, op := _, type := _, pos := _, after := _, guard := _ }) (v := ?_) rfl (by kernel_rfl) (by kernel_rfl) (by kernel_rfl) (fun _ _ _ h => h) (Or.inl ⟨by rfl, ?_⟩) (by assumption) ?_
            rotate_left
            · intro w' hSw
              try dsimp only at hSw
              go_simp
              try with_reducible rfl
            try simp only [Act.put, List.setIfInBounds_toArray, List.set_cons_zero, List.set_cons_succ]
            refine wpAnyH_take (i := 16) (oi := { dst := some 32, op := _, type := _, pos := _, after := _, guard := _ }) (v := ?_) rfl (by kernel_rfl) (by kernel_rfl) (by kernel_rfl) (fun _ _ _ h => h) (Or.inl ⟨by rfl, ?_⟩) (by assumption) ?_
            rotate_left
            · intro w' hSw
              try dsimp only at hSw
              go_simp
              try with_reducible rfl
            try simp only [Act.put, List.setIfInBounds_toArray, List.set_cons_zero, List.set_cons_succ]
            refine wpAnyH_ready (rs := [0]) (by kernel_rfl) (by simp) ?_
            refine AllReadyH.cons (o := { dst := some 16, op := _, type := _, pos := _, after := _, guard := _ }) rfl (fun K hK => ?_) (AllReadyH.nil)
            go_simp
            refine hK.out _ _ hbS (fun _ => ?_)
            clear hK K
            try simp only [Act.put, List.setIfInBounds_toArray, List.set_cons_zero, List.set_cons_succ]
            exact hRESTo.out.out
        · skip
          go_simp
          refine hK.out _ _ hbS (fun _ => ?_)
          clear hK K
          try simp only [Act.put, List.setIfInBounds_toArray, List.set_cons_zero, List.set_cons_succ]
          refine wpAnyH_take (i := 9) (oi := { dst := some 25, op := _, type := _, pos := _, after := _, guard := _ }) (v := ?_) rfl (by kernel_rfl) (by kernel_rfl) (by kernel_rfl) (fun _ _ _ h => h) (Or.inl ⟨by rfl, ?_⟩) (by assumption) ?_
          rotate_left
          · intro w' hSw
            try dsimp only at hSw
            go_simp
            try with_reducible rfl
          try simp only [Act.put, List.setIfInBounds_toArray, List.set_cons_zero, List.set_cons_succ]
          refine wpAnyH_take (i := 10) (oi := { dst := some 26, op := _, type := _, pos := _, after := _, guard := _ }) (v := ?_) rfl (by kernel_rfl) (by kernel_rfl) (by kernel_rfl) (fun _ _ _ h => h) (Or.inl ⟨by rfl, ?_⟩) (by assumption) ?_
          rotate_left
          · intro w' hSw
            try dsimp only at hSw
            go_simp
            try with_reducible rfl
          try simp only [Act.put, List.setIfInBounds_toArray, List.set_cons_zero, List.set_cons_succ]
          refine wpAnyH_ready (rs := [0, 6]) (by kernel_rfl) (by simp) ?_
          refine AllReadyH.cons (o := { dst := some 16, op := _, type := _, pos := _, after := _, guard := _ }) rfl (fun K hK => ?_) (AllReadyH.cons (o := { dst := some 22, op := _, type := _, pos := _, after := _, guard := _ }) rfl (fun K hK => ?_) (AllReadyH.nil))
          · skip
            go_simp
            refine hK.out _ _ hbS (fun _ => ?_)
            clear hK K
            try simp only [Act.put, List.setIfInBounds_toArray, List.set_cons_zero, List.set_cons_succ]
            refine wpAnyH_ready (rs := [6]) (by kernel_rfl) (by simp) ?_
            refine AllReadyH.cons (o := { dst := some 22, op := _, type := _, pos := _, after := _, guard := _ }) rfl (fun K hK => ?_) (AllReadyH.nil)
            go_simp
            refine hK.out _ _ hbS (fun _ => ?_)
            clear hK K
            try simp only [Act.put, List.setIfInBounds_toArray, List.set_cons_zero, List.set_cons_succ]
            refine wpAnyH_take (i := 11) (oi := { dst := some 27, op := _, type := _, pos := _, after := _, guard := _ }) (v := ?_) rfl (by kernel_rfl) (by kernel_rfl) (by kernel_rfl) (fun _ _ _ h => h) (Or.inl ⟨by rfl, ?_⟩) (by assumption) ?_
            rotate_left
            · intro w' hSw
              try dsimp only at hSw
              go_simp
              try with_reducible rfl
            try simp only [Act.put, List.setIfInBounds_toArray, List.set_cons_zero, List.set_cons_succ]
            refine wpAnyH_take (i := 12) (oi := { dst := some 28, op := _, type := _, pos := _, after := _, guard := _ }) (v := ?_) rfl (by kernel_rfl) (by kernel_rfl) (by kernel_rfl) (fun _ _ _ h => h) (Or.inl ⟨by rfl, ?_⟩) (by assumption) ?_
            rotate_left
            · intro w' hSw
              try dsimp only at hSw
              go_simp
              try with_reducible rfl
            try simp only [Act.put, List.setIfInBounds_toArray, List.set_cons_zero, List.set_cons_succ]
            refine wpAnyH_take (i := 13) (oi := { dst := some 29, op := _, type := _, pos := _, after := _, guard := _ }) (v := ?_) rfl (by kernel_rfl) (by kernel_rfl) (by kernel_rfl) (fun _ _ _ h => h) (Or.inl ⟨by rfl, ?_⟩) (by assumption) ?_
            rotate_left
            · intro w' hSw
              try dsimp only at hSw
              go_simp
              try with_reducible rfl
            try simp only [Act.put, List.setIfInBounds_toArray, List.set_cons_zero, List.set_cons_succ]
            refine wpAnyH_take (i := 16) (oi := { dst := some 32, op := _, type := _, pos := _, after := _, guard := _ }) (v := ?_) rfl (by kernel_rfl) (by kernel_rfl) (by kernel_rfl) (fun _ _ _ h => h) (Or.inl ⟨by rfl, ?_⟩) (by assumption) ?_
            rotate_left
            · intro w' hSw
              try dsimp only at hSw
              go_simp
              try with_reducible rfl
            try simp only [Act.put, List.setIfInBounds_toArray, List.set_cons_zero, List.set_cons_succ]
            exact hRESTo.out.out
          · skip
            go_simp
            refine hK.out _ _ hbS (fun _ => ?_)
            clear hK K
            try simp only [Act.put, List.setIfInBounds_toArray, List.set_cons_zero, List.set_cons_succ]
            refine wpAnyH_take (i := 11) (oi := { dst := some 27, op := _, type := _, pos := _, after := _, guard := _ }) (v := ?_) rfl (by kernel_rfl) (by kernel_rfl) (by kernel_rfl) (fun _ _ _ h => h) (Or.inl ⟨by rfl, ?_⟩) (by assumption) ?_
            rotate_left
            · intro w' hSw
              try dsimp only at hSw
              go_simp
              try with_reducible rfl
            try simp only [Act.put, List.setIfInBounds_toArray, List.set_cons_zero, List.set_cons_succ]
            refine wpAnyH_take (i := 12) (oi := { dst := some 28, op := _, type := _, pos := _, after := _, guard := _ }) (v := ?_) rfl (by kernel_rfl) (by kernel_rfl) (by kernel_rfl) (fun _ _ _ h => h) (Or.inl ⟨by rfl, ?_⟩) (by assumption) ?_
            rotate_left
            · intro w' hSw
              try dsimp only at hSw
              go_simp
              try with_reducible rfl
            try simp only [Act.put, List.setIfInBounds_toArray, List.set_cons_zero, List.set_cons_succ]
            refine wpAnyH_take (i := 13) (oi := { dst := some 29, op := _, type := _, pos := _, after := _, guard := _ }) (v := ?_) rfl (by kernel_rfl) (by kernel_rfl) (by kernel_rfl) (fun _ _ _ h => h) (Or.inl ⟨by rfl, ?_⟩) (by assumption) ?_
            rotate_left
            · intro w' hSw
              try dsimp only at hSw
              go_simp
              try with_reducible rfl
            try simp only [Act.put, List.setIfInBounds_toArray, List.set_cons_zero, List.set_cons_succ]
            refine wpAnyH_take (i := 16) (oi := { dst := some 32, op := _, type := _, pos := _, after := _, guard := _ }) (v := ?_) rfl (by kernel_rfl) (by kernel_rfl) (by kernel_rfl) (fun _ _ _ h => h) (Or.inl ⟨by rfl, ?_⟩) (by assumption) ?_
            rotate_left
            · intro w' hSw
              try dsimp only at hSw
              go_simp
              try with_reducible rfl
            try simp only [Act.put, List.setIfInBounds_toArray, List.set_cons_zero, List.set_cons_succ]
            refine wpAnyH_ready (rs := [0]) (by kernel_rfl) (by simp) ?_
            refine AllReadyH.cons (o := { dst := some 16, op := _, type := _, pos := _, after := _, guard := _ }) rfl (fun K hK => ?_) (AllReadyH.nil)
            go_simp
            refine hK.out _ _ hbS (fun _ => ?_)
            clear hK K
            try simp only [Act.put, List.setIfInBounds_toArray, List.set_cons_zero, List.set_cons_succ]
            exact hRESTo.out.out
      case z =>
        refine wpAnyH_ready (rs := [17]) (by kernel_rfl) (by simp) ?_
        refine AllReadyH.cons (o := { dst := some 33, op := _, type := _, pos := _, after := _, guard := _ }) rfl (fun K hK => ?_) AllReadyH.nil
        go_simp
        go_at_call 27
        refine HPUT.out.mono ?_
        rintro e w7 ⟨A2, c2, rfl, hD7, hF7, hb7⟩
        try go_wp2_with fail
        have hC7 : w7.cell? ⟨w.heap.size, 0, none⟩ = some (.int .i64 (S : Int)) ∧ w7.cell? ⟨bB, oB + i, none⟩ = some (.int .u8 (gt b i).n) ∧ w7.cell? ⟨bA, oA + l, none⟩ = some (.slice A1 L C1) := ⟨(hb7.cell (p := ⟨w.heap.size, 0, none⟩) hq2d).trans hC0.1, (hb7.cell (p := ⟨bB, oB + i, none⟩) hbB.1).trans hC0.2.1, (hb7.cell (p := ⟨bA, oA + l, none⟩) hbB.2).trans hC0.2.2⟩
        refine hK.out _ _ ?_ (fun hHeld => ?_)
        · exact hC7
        clear hK K
        try simp only [Act.put, List.setIfInBounds_toArray, List.set_cons_zero, List.set_cons_succ]
        rw [HVQ.out] at hD7 ⊢
        have HPL := Lib.hid (show vput S v' [gt b i] = vput S v' [gt b i] from rfl)
        have hk27 := HK2D.out.below HK2D.out.lt hb7
        have hk47 := HX4.out.below HX4.out.lt hb7
        have hk57 := HX5.out.below HX5.out.lt hb7
        have hk67 := HX6.out.below HX6.out.lt hb7
        have hB7 := HBW.out.trans (hb7.mono HBW.out.size)
        have hF7' : ∀ y o, A2 = some ⟨y, o, none⟩ → w.heap.size + 3 ≤ y := fun y o e => by have h1 := hF7 y o e; have h2 := HX6.out.lt; omega
        have hD8 := hD7.box hk27 (fun x e => by cases e) (fun x e => by cases e) (fun y o e => by have := hF7' y o e; omega) #[.int .i64 (S : Int), .slice A2 ((vput S v' [gt b i]).P.length + 1) c2]
        have hr8 := st_dw hk27 rfl #[.int .i64 (S : Int), .slice A2 ((vput S v' [gt b i]).P.length + 1) c2] rfl (by simp [Value.oneCell'])
        have HK28 := Lib.hid (hk27.setRow #[.int .i64 (S : Int), .slice A2 ((vput S v' [gt b i]).P.length + 1) c2])
        have HK48 := Lib.hid (blk_setRow_ne hk47 (show w.heap.size + 1 ≠ w.heap.size by omega) #[.int .i64 (S : Int), .slice A2 ((vput S v' [gt b i]).P.length + 1) c2])
        have HK58 := Lib.hid (blk_setRow_ne hk57 (show w.heap.size + 1 + 1 ≠ w.heap.size by omega) #[.int .i64 (S : Int), .slice A2 ((vput S v' [gt b i]).P.length + 1) c2])
        have HK68 := Lib.hid (blk_setRow_ne hk67 (show q6 ≠ w.heap.size by omega) #[.int .i64 (S : Int), .slice A2 ((vput S v' [gt b i]).P.length + 1) c2])
        have HD8 := Lib.hid (hD8.mono (G' := fun y => G y ∨ w.heap.size ≤ y) (fun y _ h => h.elim id (fun h => .inr (by omega))))
        have HB8 := Lib.hid (below_setRowV hB7 (Nat.le_refl _) #[.int .i64 (S : Int), .slice A2 ((vput S v' [gt b i]).P.length + 1) c2])
        have HAF8 : Hid (∀ y p, A2 = some ⟨y, p, none⟩ → y < w.heap.size ∨ w.heap.size + 3 ≤ y) := fun y p e => .inr (hF7' y p e)
        have HOK8 := Lib.hid (hOk.out.put (b := [gt b i]) (by simp) (by simpa using hS1))
        have HDA8 : Hid (vdata S (vput S v' [gt b i]) (b.drop (i + 1)) = vdata S v b) := by
          have h9 := hDa.out
          rw [drop_gt (show i < b.length by rw [HM.out.1]; exact hlt)] at h9
          exact h9
        have HFL8 : Hid ((vput S v' [gt b i]).flat.length ≤ v.flat.length + (i + 1)) := by
          have h9 := hFl.out
          unfold Hid
          rw [flat_put, List.length_append]
          simp
          omega
        have hC8 : (w7.setRow w.heap.size #[.int .i64 (S : Int), .slice A2 ((vput S v' [gt b i]).P.length + 1) c2]).cell? ⟨w.heap.size, 0, none⟩ = some (.int .i64 (S : Int)) ∧ (w7.setRow w.heap.size #[.int .i64 (S : Int), .slice A2 ((vput S v' [gt b i]).P.length + 1) c2]).cell? ⟨bB, oB + i, none⟩ = some (.int .u8 (gt b i).n) ∧ (w7.setRow w.heap.size #[.int .i64 (S : Int), .slice A2 ((vput S v' [gt b i]).P.length + 1) c2]).cell? ⟨bA, oA + l, none⟩ = some (.slice A1 L C1) := ⟨HK28.out.cell 0, (cell_setRow_ne (hneq.1) _).trans hC7.2.1, (cell_setRow_ne (hneq.2) _).trans hC7.2.2⟩
        refine wpAnyH_ready (rs := [18]) (by kernel_rfl) (by simp) ?_
        refine AllReadyH.cons (o := { dst := none, op := _, type := _, pos := _, after := _, guard := _ }) rfl (fun K hK => ?_) AllReadyH.nil
        refine stepH_store_var w.heap.size _ _ rfl rfl hr8 ?_
        refine hK.out _ _ hC8 (fun _ => ?_)
        clear hK K hr8
        try simp only [Act.put, List.setIfInBounds_toArray, List.set_cons_zero, List.set_cons_succ]
        refine wpAnyH_done (by kernel_rfl) ?_ _
        have hdd := HVQ.out
        have HK28 := HK28
        go_wp2
        go_roundw
        case rel => exact ⟨i + 1, vput S v' [gt b i], A2, c2, by omega, by go_num, HK28, HD8, HAF8, HOK8, HDA8, HFL8, HB8, HK48, HK58, HK68⟩
        case measure => simp [intOf]; omega
    · obtain rfl : i = n := by omega
      have hvv : v' = vdata S v b := by
        have h9 := hDa.out
        rw [List.drop_eq_nil_of_le (by rw [HM.out.1]; exact Nat.le_refl _)] at h9
        exact h9
      subst hvv
      have hbd : Below wr.heap.size wr wr.drew := (Below.refl _ _).drew
      have hx2 := hk2.out.below hk2.out.lt hbd
      have hx4 := hk4.out.below hk4.out.lt hbd
      have hx5 := hk5.out.below hk5.out.lt hbd
      have hx6 := hk6.out.below hk6.out.lt hbd
      have hbw := hb.out.trans (hbd.mono hb.out.size)
      have hD1 := hD.out.below hbd
      obtain ⟨V0, hVW⟩ : ∃ V0, V0 = wr.drew := ⟨_, rfl⟩
      have hC00 : wr.drew.cell? ⟨w.heap.size, 0, none⟩ = some (.int .i64 (S : Int)) ∧ wr.drew.cell? ⟨w.heap.size, 1, none⟩ = some (.slice A' ((vdata S v b).P.length + 1) c') ∧ wr.drew.cell? ⟨q6, 0, none⟩ = some (.int .i64 (d : Int)) ∧ wr.drew.cell? ⟨q6, 1, none⟩ = some (.int .i64 (o : Int)) := ⟨hx2.cell 0, hx2.cell 1, hx6.cell 0, hx6.cell 1⟩
      have hC0 := hC00
      rw [← hVW] at hC0 hx2 hx4 hx5 hx6 hbw hD1
      have hr4 := st_dw hx4 rfl #[.int .i64 (S : Int), .slice A' ((vdata S v b).P.length + 1) c'] rfl (by simp [Value.oneCell'])
      have hx44 := hx4.setRow #[.int .i64 (S : Int), .slice A' ((vdata S v b).P.length + 1) c']
      have hx54 := blk_setRow_ne hx5 (show w.heap.size + 1 + 1 ≠ w.heap.size + 1 by omega) #[.int .i64 (S : Int), .slice A' ((vdata S v b).P.length + 1) c']
      have hr5 := st_pl hx54 rfl #[.int .i64 (d : Int), .int .i64 (o : Int)] rfl (by simp [Value.oneCell'])
      have hx45 := blk_setRow_ne hx44 (show w.heap.size + 1 ≠ w.heap.size + 1 + 1 by omega) #[.int .i64 (d : Int), .int .i64 (o : Int)]
      have hx55 := hx54.setRow #[.int .i64 (d : Int), .int .i64 (o : Int)]
      have t4 := ld_dw hx45 rfl
      have t5 := ld_pl hx55 rfl
      have hD4 := hD1.box hx4 (fun x e => by cases e) (fun x e => by cases e) (fun y o e => by have := hAF.out y o e; omega) #[.int .i64 (S : Int), .slice A' ((vdata S v b).P.length + 1) c']
      have hD5 := hD4.box hx54 (fun x e => by cases e) (fun x e => by cases e) (fun y o e => by have := hAF.out y o e; omega) #[.int .i64 (d : Int), .int .i64 (o : Int)]
      have hC4 : (V0.setRow (w.heap.size + 1) #[.int .i64 (S : Int), .slice A' ((vdata S v b).P.length + 1) c']).cell? ⟨w.heap.size, 0, none⟩ = some (.int .i64 (S : Int)) ∧ (V0.setRow (w.heap.size + 1) #[.int .i64 (S : Int), .slice A' ((vdata S v b).P.length + 1) c']).cell? ⟨w.heap.size, 1, none⟩ = some (.slice A' ((vdata S v b).P.length + 1) c') ∧ (V0.setRow (w.heap.size + 1) #[.int .i64 (S : Int), .slice A' ((vdata S v b).P.length + 1) c']).cell? ⟨q6, 0, none⟩ = some (.int .i64 (d : Int)) ∧ (V0.setRow (w.heap.size + 1) #[.int .i64 (S : Int), .slice A' ((vdata S v b).P.length + 1) c']).cell? ⟨q6, 1, none⟩ = some (.int .i64 (o : Int)) := ⟨(cell_setRow_ne (show w.heap.size ≠ w.heap.size + 1 by omega) _).trans hC0.1, (cell_setRow_ne (show w.heap.size ≠ w.heap.size + 1 by omega) _).trans hC0.2.1, (cell_setRow_ne (show q6 ≠ w.heap.size + 1 by omega) _).trans hC0.2.2.1, (cell_setRow_ne (show q6 ≠ w.heap.size + 1 by omega) _).trans hC0.2.2.2⟩
      have hC5 : ((V0.setRow (w.heap.size + 1) #[.int .i64 (S : Int), .slice A' ((vdata S v b).P.length + 1) c']).setRow (w.heap.size + 1 + 1) #[.int .i64 (d : Int), .int .i64 (o : Int)]).cell? ⟨w.heap.size, 0, none⟩ = some (.int .i64 (S : Int)) ∧ ((V0.setRow (w.heap.size + 1) #[.int .i64 (S : Int), .slice A' ((vdata S v b).P.length + 1) c']).setRow (w.heap.size + 1 + 1) #[.int .i64 (d : Int), .int .i64 (o : Int)]).cell? ⟨w.heap.size, 1, none⟩ = some (.slice A' ((vdata S v b).P.length + 1) c') ∧ ((V0.setRow (w.heap.size + 1) #[.int .i64 (S : Int), .slice A' ((vdata S v b).P.length + 1) c']).setRow (w.heap.size + 1 + 1) #[.int .i64 (d : Int), .int .i64 (o : Int)]).cell? ⟨q6, 0, none⟩ = some (.int .i64 (d : Int)) ∧ ((V0.setRow (w.heap.size + 1) #[.int .i64 (S : Int), .slice A' ((vdata S v b).P.length + 1) c']).setRow (w.heap.size + 1 + 1) #[.int .i64 (d : Int), .int .i64 (o : Int)]).cell? ⟨q6, 1, none⟩ = some (.int .i64 (o : Int)) := ⟨(cell_setRow_ne (show w.heap.size ≠ w.heap.size + 1 + 1 by omega) _).trans hC4.1, (cell_setRow_ne (show w.heap.size ≠ w.heap.size + 1 + 1 by omega) _).trans hC4.2.1, (cell_setRow_ne (show q6 ≠ w.heap.size + 1 + 1 by omega) _).trans hC4.2.2.1, (cell_setRow_ne (show q6 ≠ w.heap.size + 1 + 1 by omega) _).trans hC4.2.2.2⟩
      have HD5 := Lib.hid hD5
      have HB5 := Lib.hid (below_setRowV (below_setRowV hbw (show w.heap.size ≤ w.heap.size + 1 by omega) #[.int .i64 (S : Int), .slice A' ((vdata S v b).P.length + 1) c']) (show w.heap.size ≤ w.heap.size + 1 + 1 by omega) #[.int .i64 (d : Int), .int .i64 (o : Int)])
      have HVW := Lib.hid hVW
      have HC00 := Lib.hid hC00
      clear hbd hx2 hx4 hx5 hx6 hbw hD1 hx44 hx54 hx45 hx55 hD4 hD5 hC00 hVW hDa
      go_wp2_with fail
      refine wp_region_held_drew (S := fun W' => W'.cell? ⟨w.heap.size, 0, none⟩ = some (.int .i64 (S : Int)) ∧ W'.cell? ⟨w.heap.size, 1, none⟩ = some (.slice A' ((vdata S v b).P.length + 1) c') ∧ W'.cell? ⟨q6, 0, none⟩ = some (.int .i64 (d : Int)) ∧ W'.cell? ⟨q6, 1, none⟩ = some (.int .i64 (o : Int))) (by kernel_rfl) HC00.out (fun _ => ?_)
      rw [← HVW.out]
      refine wpAnyH_take (i := 0) (oi := { dst := some 34, op := _, type := _, pos := _, after := _, guard := _ }) (v := ?_) rfl (by kernel_rfl) (by kernel_rfl) (by kernel_rfl) (fun _ _ _ h => h) (Or.inl ⟨by rfl, ?_⟩) (by assumption) ?_
      rotate_left
      · intro w' hSw
        try dsimp only at hSw
        go_simp
        try with_reducible rfl
      try simp only [Act.put, List.setIfInBounds_toArray, List.set_cons_zero, List.set_cons_succ]
      refine wpAnyH_take (i := 1) (oi := { dst := some 35, op := _, type := _, pos := _, after := _, guard := _ }) (v := ?_) rfl (by kernel_rfl) (by kernel_rfl) (by kernel_rfl) (fun _ _ _ h => h) (Or.inl ⟨by rfl, ?_⟩) (by assumption) ?_
      rotate_left
      · intro w' hSw
        try dsimp only at hSw
        go_simp
        try with_reducible rfl
      try simp only [Act.put, List.setIfInBounds_toArray, List.set_cons_zero, List.set_cons_succ]
      refine wpAnyH_ready (rs := [2]) (by kernel_rfl) (by simp) ?_
      refine AllReadyH.cons (o := { dst := none, op := _, type := _, pos := _, after := _, guard := _ }) rfl (fun K hK => ?_) AllReadyH.nil
      refine stepH_store_var (w.heap.size + 1) _ _ rfl rfl hr4 ?_
      refine hK.out _ _ hC4 (fun _ => ?_)
      clear hK K
      try simp only [Act.put, List.setIfInBounds_toArray, List.set_cons_zero, List.set_cons_succ]
      refine wpAnyH_ready (rs := [3]) (by kernel_rfl) (by simp) ?_
      refine AllReadyH.cons (o := { dst := none, op := _, type := _, pos := _, after := _, guard := _ }) rfl (fun K hK => ?_) AllReadyH.nil
      refine stepH_store_var (w.heap.size + 1 + 1) _ _ rfl rfl hr5 ?_
      refine hK.out _ _ hC5 (fun _ => ?_)
      clear hK K
      try simp only [Act.put, List.setIfInBounds_toArray, List.set_cons_zero, List.set_cons_succ]
      refine wpAnyH_done (by kernel_rfl) ?_ _
      go_wp2_with fail
      refine bodyPost_ret (v := .tuple #[.agg #[.int .i64 (S : Int), .slice A' ((vdata S v b).P.length + 1) c'], .agg #[.int .i64 (d : Int), .int .i64 (o : Int)]]) ?_ rfl ⟨A', c', by rw [HDO.out]; rfl, HD5.out, HB5.out⟩
      rw [results_cell_cell rfl]
      simp [asAddr, Result.andThen, t4, t5]
end Go.Proofs.Ytkijagodedmipaa
