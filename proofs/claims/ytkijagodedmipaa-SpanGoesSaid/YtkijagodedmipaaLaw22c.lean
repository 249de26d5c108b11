/-
  LAW 22: SpanPlays: of each row of steps every answer, and all volumes, are as the document says. No conditions.
-/
import Derived.Test.YtkijagodedmipaaSpo
import Derived.Test.YtkijagodedmipaaLaw22a
namespace Go.Proofs.Ytkijagodedmipaa
open Go.RowKit
set_option maxRecDepth 100000
set_option linter.unusedVariables false

theorem Dw.work {Fp Fq : Nat → Prop} {q : Nat} {w w' : World} {v : Vs} {A : Option Addr} {c : Nat} (h : Dw (fun y => ¬ Fp y ∧ y ≠ q) w v A c) (hk : KeepF Fp w w') (hq : ∀ k, k < w.heap.size → Fq k → Fp k) : Dw (fun y => ¬ Fq y ∧ y ≠ q) w' v A c :=
  ((h.mono (G' := fun y => (¬ Fp y ∧ y ≠ q) ∧ y < w.heap.size) (fun x hx hg => ⟨hg, hx⟩)).keepF hk (fun x _ hg => hg.1.1)).mono fun x _ hg => ⟨fun hF => hg.1.1 (hq x hg.2 hF), hg.1.2⟩
theorem nxt_held {S : Nat} {v : Vs} (hS : 1 ≤ S) (hq : v.q.length ≤ S) (m : Int) {N : Nat} (hN : heldI m 1 S = (N : Int)) : nxt S v m = vat S v N := by
  have h1 : min (max m 1) S = (N : Int) := by rw [← hN]; unfold heldI; omega
  unfold nxt vat
  by_cases e : v.q.length + N ≤ S
  · rw [if_pos (by omega), if_pos e]
  · rw [if_neg (by omega), if_neg e]
theorem Record_v {w : World} {base p S n c : Nat} {v v2 : Vs} {d o k3 : Nat} {Fp : Nat → Prop} {B : Option Addr} {b : List F} (h : Spw w base p S v Fp) (hv : VOk S v) (hS : S ≤ 16777216) (hm : v.P.length ≤ 1000000) (hb : Row w B n b) (hBn : 0 < n → ∀ x o, B = some ⟨x, o, none⟩ → ¬ Fp x) (er : recF S v b = (v2, d, o, k3)) :
    Calls Try.prog 11 #[.pointer (some ⟨p, 0, none⟩), .slice B n c] w fun e w' => ∃ Fq, e = .returned (.tuple #[.agg #[.int .i64 (d : Int), .int .i64 (o : Int)], .int .i64 (k3 : Int)]) ∧ KeepF Fp w w' ∧ Spw w' base p S v2 Fq ∧ ∀ k, k < w.heap.size → Fq k → Fp k :=
  (Record_c h hv hS hm hb hBn).mono fun e w' hq => by
    have h9 := hq.use
    rw [er] at h9
    exact h9
theorem RRecord_v {G : Nat → Prop} {w : World} {S : Nat} {v v2 : Vs} {d o k3 : Nat} {A : Option Addr} {c : Nat} (h : Dw G w v A c) (hv : VOk S v) (hS : S ≤ 16777216) {B : Option Addr} {n cb : Nat} {b : List F} (hb : RowIn w B n cb b) (hm : v.flat.length + n ≤ 50000) (er : recF S v b = (v2, d, o, k3)) :
    Calls Try.prog 12 #[.agg #[.int .i64 (S : Int), .slice A (v.P.length + 1) c], .slice B n cb] w fun e w' => ∃ A' c', e = .returned (.tuple #[.agg #[.int .i64 (S : Int), .slice A' (v2.P.length + 1) c'], .agg #[.int .i64 (d : Int), .int .i64 (o : Int)], .int .i64 (k3 : Int)]) ∧ Dw (fun y => G y ∨ w.heap.size ≤ y) w' v2 A' c' ∧ Below w.heap.size w w' :=
  (RRecord_c h hv hS hb hm).mono fun e w' hq => by
    unfold RdR at hq
    rw [er] at hq
    exact hq
theorem Data_v {w : World} {base p S n c : Nat} {v v2 : Vs} {d o : Nat} {Fp : Nat → Prop} {B : Option Addr} {b : List F} (h : Spw w base p S v Fp) (hv : VOk S v) (hS : S ≤ 16777216) (hm : v.flat.length + n ≤ 1000000) (hb : RowIn w B n c b) (hBn : 0 < n → ∀ x o, B = some ⟨x, o, none⟩ → ¬ Fp x) (ea : vat S v 1 = (d, o)) (ev : vdata S v b = v2) :
    Calls Try.prog 13 #[.pointer (some ⟨p, 0, none⟩), .slice B n c] w fun e w' => ∃ Fq, e = .returned (.agg #[.int .i64 (d : Int), .int .i64 (o : Int)]) ∧ KeepF Fp w w' ∧ Spw w' base p S v2 Fq ∧ ∀ k, k < w.heap.size → Fq k → Fp k :=
  (Data_c h hv hS hm hb hBn).mono fun e w' hq => by
    have h9 := hq.use
    rw [ea, ev] at h9
    exact h9
theorem RData_v {G : Nat → Prop} {w : World} {S : Nat} {v v2 : Vs} {d o : Nat} {A : Option Addr} {c : Nat} (h : Dw G w v A c) (hv : VOk S v) (hS : S ≤ 16777216) {B : Option Addr} {n cb : Nat} {b : List F} (hb : RowIn w B n cb b) (hm : v.flat.length + n ≤ 50000) (ea : vat S v 1 = (d, o)) (ev : vdata S v b = v2) :
    Calls Try.prog 14 #[.agg #[.int .i64 (S : Int), .slice A (v.P.length + 1) c], .slice B n cb] w fun e w' => ∃ A' c', e = .returned (.tuple #[.agg #[.int .i64 (S : Int), .slice A' (v2.P.length + 1) c'], .agg #[.int .i64 (d : Int), .int .i64 (o : Int)]]) ∧ Dw (fun y => G y ∨ w.heap.size ≤ y) w' v2 A' c' ∧ Below w.heap.size w w' :=
  (RData_c h hv hS hb hm).mono fun e w' hq => by
    unfold DdR at hq
    rw [ea, ev] at hq
    exact hq
theorem RowsW_same {w : World} {A A' : Option Addr} {n cap cap' : Nat} {RA RA' : Nat → Option Addr} {RC RC' : Nat → Nat} {R : Nat → List F} (h : MInR w A n cap RA RC R) (h' : MInR w A' n cap' RA' RC' R) :
    Calls Try.prog 15 #[.slice A n cap, .slice A' n cap'] w fun e w' => e = .returned (.bool true) ∧ ∃ q, w' = w.drewN q := by
  have h9 := RowsW_c h h'
  rw [decide_eq_true (show sameR n R n R from ⟨rfl, fun _ _ => rfl⟩)] at h9
  exact h9
theorem Dw.rows {G : Nat → Prop} {w : World} {v : Vs} {A : Option Addr} {c : Nat} (h : Dw G w v A c) : ∃ RA RC, MInR w A (v.P.length + 1) c RA RC (vrow v) := by
  obtain ⟨RA, RC, h, _⟩ := h
  exact ⟨RA, RC, h⟩
set_option maxHeartbeats 8000000 in
theorem plays_main (w : World) (S n cap : Nat) (A : Option Addr) (K : Nat → Int) (RA : Nat → Option Addr) (RL RC : Nat → Nat) (R : Nat → List F) (h : OIn w A n cap K RA RL RC R) (hf : fewO n RL) (hS5 : 5 ≤ S) (hS6 : S ≤ 16777216) (m : Int) (hm : (Lit.int .i64 m).wf = true) :
    Calls Try.prog 3 #[.int .i64 S, .slice A n cap, .int .i64 m] w fun e w' => e = .returned (.bool true) ∧ Below w.heap.size w w' := by
  have H := Lib.hid h
  have HD : Hid (decide (fewO n RL) = true) := decide_eq_true hf
  have HF := Lib.hid hf
  have HWM := Lib.hid hm
  clear h hf hm
  have s1 : ¬ (S : Int) < 5 := by omega
  have s2 : ¬ (16777216 : Int) < (S : Int) := by omega
  go_enter Try.func3, Try.ntmps3
  go_wp2_with fail
  refine (alive22_c _).mono ?_
  rintro e W0 ⟨rfl, hb0⟩
  have HB0 := Lib.hid hb0
  clear hb0
  go_wp2_with fail
  refine (few22_c (H.out.below HB0.out)).mono ?_
  rintro e W1 ⟨rfl, hb1⟩
  rw [HD.out]
  have HB1 := Lib.hid (HB0.out.trans (hb1.mono HB0.out.size))
  clear hb1 HB0
  go_wp2_with fail
  refine (New_c S (by simp [Lit.wf, IntKind.min, IntKind.max, IntKind.bits, IntKind.signed]; omega) W1).mono ?_
  rintro e W2 (⟨hno, _, _⟩ | ⟨S', p, hS, _, _, rfl, hb2, hs2⟩)
  case inl => exact absurd (if_neg (by omega)) hno
  obtain rfl : S' = S := by omega
  have HB2 := Lib.hid (HB1.out.trans (hb2.mono HB1.out.size))
  have HS2 := Lib.hid hs2
  have HBS : Hid (w.heap.size ≤ W1.heap.size) := HB1.out.size
  clear hb2 hs2 hS HB1
  generalize Fgrow (fun _ => False) W1.heap.size W2.heap.size = F2 at *
  generalize W1.heap.size = base at *
  go_wp2_with fail
  refine (RNew_c S' W2).mono ?_
  rintro e W3 ⟨A1, c1, rfl, hD3, hb3⟩
  have hba := (Below.refl W3.heap.size W3).alloc (Nat.le_refl _) (.cells #[.int .i64 (S' : Int), .slice A1 1 c1] 31)
  have hS3 := HS2.out.below hb3
  have HS4 := Lib.hid (hS3.below hba)
  have HD4 := Lib.hid ((hD3.mono (G' := fun y => ¬ F2 y ∧ y ≠ W3.heap.size) (fun x hx hg => ⟨fun hF => by have := (HS2.out.sub x hF).2; omega, by omega⟩)).below hba)
  have HB3 := HB2.out.trans (hb3.mono HB2.out.size)
  have HB4 := Lib.hid (HB3.trans (hba.mono HB3.size))
  have HBX := HB3.size
  have HK4 := Lib.hid (Blk.new W3 31 #[.int .i64 (S' : Int), .slice A1 1 c1])
  have HN4 : Hid (¬ F2 W3.heap.size) := fun hF => by have := (hS3.sub _ hF).2; omega
  have hn := H.out.nmax
  clear hba hS3 HB3 hD3 hb3 HS2 HB2
  unfold dwV
  go_wp2_with fail
  generalize W3.alloc (.cells #[.int .i64 (S' : Int), .slice A1 1 c1] 31) = W4 at *
  have HXB : Hid (w.heap.size ≤ W3.heap.size) := HBX
  clear HBX
  generalize W3.heap.size = qx at *
  go_loopw [48] (fun iv wr => ∃ (k : Nat) (v : Vs) (Fp : Nat → Prop) (A' : Option Addr) (c' : Nat), k ≤ n ∧ iv = .int .i64 k ∧ Hid (Spw wr base p S' v Fp) ∧ Hid (VOk S' v) ∧ Hid (v.flat.length ≤ 4 + 60 * k) ∧ Hid (Below w.heap.size w wr) ∧ Hid (Blk wr qx 31 #[.int .i64 (S' : Int), .slice A' (v.P.length + 1) c']) ∧ Hid (Dw (fun y => ¬ Fp y ∧ y ≠ qx) wr v A' c') ∧ Hid (¬ Fp qx)) (fun iv _ => n - (intOf iv).toNat)
  case atStart => exact ⟨0, v0, F2, A1, c1, by omega, rfl, HS4, v0_ok hS5, (by show Hid (_ ≤ _); unfold Hid; decide), HB4, HK4, HD4, HN4⟩
  case round =>
    clear HS4 HB4 HK4 HD4 HN4
    obtain ⟨k, v, Fp, A', c', hk, rfl, hSp, hOk, hFl, hb, hkx, hDw, hnx⟩ := hrel
    by_cases hlt : k < n
    · have hkn : (k : Int) < n := by omega
      have hO := H.out.below hb.out
      obtain ⟨b1, o1, rfl, _, q0, q1⟩ := hO.at_ hlt
      have hrow := hO.row k hlt
      have hlk := HF.out.2 k hlt
      have hn20 := HF.out.1
      have hcnt := hOk.out.count
      have hfl := hFl.out
      have hP : v.P.length < 1300 := by omega
      have hlenR : (R k).length = RL k := H.out.len hlt
      have hba := (Below.refl wr.heap.size wr).alloc (Nat.le_refl _) (.cells #[.int .i64 (K k), .slice (RA k) (RL k) (RC k)] 35)
      have HS4 := Lib.hid (hSp.out.below hba)
      have HB4 := Lib.hid (hb.out.trans (hba.mono hb.out.size))
      have HR4 := Lib.hid (hrow.below hba)
      have HK8 := Lib.hid (Blk.new wr 35 #[.int .i64 (K k), .slice (RA k) (RL k) (RC k)])
      have HKX := Lib.hid (hkx.out.below hkx.out.lt hba)
      have HDW := Lib.hid (hDw.out.below hba)
      have HN8 : Hid (¬ Fp wr.heap.size) := fun h => by have := (hSp.out.sub _ h).2; omega
      have hxl : qx < wr.heap.size := hkx.out.lt
      have HOK := Lib.hid hOk.out
      have HPP := Lib.hid hP
      have HLR := Lib.hid hlenR
      have HFAR : Hid (0 < RL k → ∀ x o, RA k = some ⟨x, o, none⟩ → ¬ Fp x) := fun h0 x o e h => by
        obtain ⟨b9, o9, e9, hl9, _⟩ := (H.out.row k hlt).row.at_ h0
        rw [e] at e9
        injection e9 with e9
        injection e9 with e9 _ _
        have := (HS4.out.sub x h).1
        have := HBS.out
        omega
      have z80 : (wr.alloc (.cells #[.int .i64 (K k), .slice (RA k) (RL k) (RC k)] 35)).cell? ⟨wr.heap.size, 0, none⟩ = some (.int .i64 (K k)) := HK8.out.cell 0
      have z81 : (wr.alloc (.cells #[.int .i64 (K k), .slice (RA k) (RL k) (RC k)] 35)).cell? ⟨wr.heap.size, 1, none⟩ = some (.slice (RA k) (RL k) (RC k)) := HK8.out.cell 1
      clear hba hO hrow hOk hSp hcnt hb hkx hDw hlenR
      by_cases hK0 : K k = 0
      · have k0 : ((K k : Int) == 0) = true := by rw [hK0]; rfl
        clear hK0
        obtain ⟨v2, d3, o3, k3, er⟩ : ∃ v2 d o k3, recF S' v (R k) = (v2, d, o, k3) := ⟨_, _, _, _, rfl⟩
        have hok2 := HOK.out.rec_ (R k)
        have hfl2 : (recF S' v (R k)).1.flat.length ≤ 4 + 60 * (k + 1) := rec_flat_le (R k) hfl (by rw [HLR.out]; exact hlk)
        rw [er] at hok2 hfl2
        have HOK2 : Hid (VOk S' v2) := hok2
        have HFL2 : Hid (v2.flat.length ≤ 4 + 60 * (k + 1)) := hfl2
        clear hok2 hfl2
        have HRC := Lib.hid (Record_v (c := RC k) HS4.out HOK.out hS6 (by omega) HR4.out.row HFAR.out er)
        go_wp2_with fail
        refine HRC.out.mono ?_
        rintro e W5 ⟨F5, rfl, hk5, hs5, hf5⟩
        have hba := (Below.refl W5.heap.size W5).alloc (Nat.le_refl _) (.cells #[.int .i64 (d3 : Int), .int .i64 (o3 : Int)] 37)
        have HS6 := Lib.hid (hs5.below hba)
        have hB5 := HB4.out.trans (HS4.out.belowW hk5 HBS.out HB4.out.size)
        have HB6 := Lib.hid (hB5.trans (hba.mono hB5.size))
        have HR6 := Lib.hid ((HR4.out.keepF hk5 HFAR.out).below hba)
        have hk85 := hk5.blk HK8.out HN8.out
        have hkx5 := hk5.blk HKX.out hnx.out
        have HK86 := Lib.hid (hk85.below hk85.lt hba)
        have HKX6 := Lib.hid (hkx5.below hkx5.lt hba)
        have HD6 := Lib.hid ((HDW.out.work hk5 hf5).below hba)
        have HK12 := Lib.hid (Blk.new W5 37 #[.int .i64 (d3 : Int), .int .i64 (o3 : Int)])
        have HN5 : Hid (¬ F5 qx) := fun h => hnx.out (hf5 _ HKX.out.lt h)
        have HF5 : Hid (∀ y, F5 y → y < W5.heap.size) := fun y h => (hs5.sub y h).2
        have hx12 : qx < W5.heap.size := hkx5.lt
        have h812 : wr.heap.size < W5.heap.size := hk85.lt
        have z81' : (W5.alloc (.cells #[.int .i64 (d3 : Int), .int .i64 (o3 : Int)] 37)).cell? ⟨wr.heap.size, 1, none⟩ = some (.slice (RA k) (RL k) (RC k)) := HK86.out.cell 1
        have hsz6 : (W5.alloc (.cells #[.int .i64 (d3 : Int), .int .i64 (o3 : Int)] 37)).heap.size = W5.heap.size + 1 := by simp
        have HRR := Lib.hid (RRecord_v (cb := RC k) HD6.out HOK.out hS6 HR6.out (by omega) er)
        have tlx := ld_dw HKX6.out rfl
        clear hk5 hs5 hf5 hba hB5 hk85 hkx5 HS4 HB4 HR4 HK8 HKX HDW HN8 HRC z80 z81 hnx HFAR HR6 HD6
        generalize wr.heap.size = q8 at *
        go_wp2_with (with_reducible refine wpList_load_var qx _ rfl tlx ?_)
        generalize W5.alloc (.cells #[.int .i64 (d3 : Int), .int .i64 (o3 : Int)] 37) = W6 at *
        generalize W5.heap.size = q12 at *
        clear tlx
        refine HRR.out.mono ?_
        rintro e W7 ⟨A2, c2, rfl, hD7, hb7⟩
        have hq14 : q12 < W7.heap.size := by have := hb7.size; omega
        have HD7 := Lib.hid (hD7.mono (G' := fun y => ¬ F5 y ∧ y ≠ qx) (fun y _ hg => hg.elim id (fun hg => ⟨fun hF => by have := HF5.out y hF; omega, by omega⟩)))
        have hba := (Below.refl W7.heap.size W7).alloc (Nat.le_refl _) (.cells #[.int .i64 (S' : Int), .slice A2 (v2.P.length + 1) c2] 31)
        have hbb := (Below.refl (W7.alloc (.cells #[.int .i64 (S' : Int), .slice A2 (v2.P.length + 1) c2] 31)).heap.size _).alloc (Nat.le_refl _) (.cells #[.int .i64 (d3 : Int), .int .i64 (o3 : Int)] 37)
        have hb67 := hb7.trans (hba.mono hb7.size)
        have hb68 := hb67.trans (hbb.mono hb67.size)
        have HS8 := Lib.hid (HS6.out.below hb68)
        have HB8 := Lib.hid (HB6.out.trans (hb68.mono HB6.out.size))
        have HKX8 := Lib.hid (HKX6.out.below HKX6.out.lt hb68)
        have HK128 := Lib.hid (HK12.out.below HK12.out.lt hb68)
        have HD8 := Lib.hid ((HD7.out.below hba).below hbb)
        have hk14 := Blk.new W7 31 #[.int .i64 (S' : Int), .slice A2 (v2.P.length + 1) c2]
        have HK148 := Lib.hid (hk14.below hk14.lt hbb)
        have hz14 : (W7.alloc (.cells #[.int .i64 (S' : Int), .slice A2 (v2.P.length + 1) c2] 31)).heap.size = W7.heap.size + 1 := by simp
        have hk15 := Blk.new (W7.alloc (.cells #[.int .i64 (S' : Int), .slice A2 (v2.P.length + 1) c2] 31)) 37 #[.int .i64 (d3 : Int), .int .i64 (o3 : Int)]
        rw [hz14] at hk15
        have HK158 := Lib.hid hk15
        clear hba hbb hb67 hb68 hD7 hb7 HD7 HRR HS6 HB6 HKX6 HK12 HK86 z81' hsz6 hz14 hk14 hk15
        have tl14 := ld_dw HK148.out rfl
        have ts9 := st_dw HKX8.out rfl #[.int .i64 (S' : Int), .slice A2 (v2.P.length + 1) c2] rfl (by simp [Value.oneCell'])
        have h14n : qx ≠ W7.heap.size := by omega
        have hk9 := HKX8.out.setRow #[.int .i64 (S' : Int), .slice A2 (v2.P.length + 1) c2]
        have hk129 := blk_setRow_ne HK128.out (show q12 ≠ qx by omega) #[.int .i64 (S' : Int), .slice A2 (v2.P.length + 1) c2]
        have hk159 := blk_setRow_ne HK158.out (show W7.heap.size + 1 ≠ qx by omega) #[.int .i64 (S' : Int), .slice A2 (v2.P.length + 1) c2]
        have hS9 := HS8.out.setRow HN5.out #[.int .i64 (S' : Int), .slice A2 (v2.P.length + 1) c2]
        have hB9 := below_setRowV HB8.out (show w.heap.size ≤ qx from HXB.out) #[.int .i64 (S' : Int), .slice A2 (v2.P.length + 1) c2]
        have hD9 := HD8.out.box HKX8.out (fun x e => by cases e) (fun x e => by cases e) (fun y o e => by obtain ⟨_, _, _, _, h3⟩ := HD8.out; exact (h3 y o e).2) #[.int .i64 (S' : Int), .slice A2 (v2.P.length + 1) c2]
        have HKX9 := Lib.hid hk9
        have HS9 := Lib.hid hS9
        have HB9 := Lib.hid hB9
        have HD9 := Lib.hid hD9
        have tl12 := ld_pl hk129 rfl
        have tl15 := ld_pl hk159 rfl
        clear hk9 hk129 hk159 hS9 hB9 hD9 HS8 HB8 HD8 HK128 HK148 HK158
        go_wp2_with (first
          | (with_reducible refine wpList_load_var W7.heap.size _ rfl tl14 ?_)
          | (with_reducible refine wpList_store_var _ _ _ (by with_unfolding_all rfl) (by with_unfolding_all rfl) ts9 ?_)
          | (with_reducible refine wpList_load_var q12 _ rfl tl12 ?_)
          | (with_reducible refine wpList_load_var (W7.heap.size + 1) _ rfl tl15 ?_))
        clear tl14 ts9 tl12 tl15
        obtain ⟨Wz, hWz⟩ : ∃ Wz, Wz = ((W7.alloc (.cells #[.int .i64 (S' : Int), .slice A2 (v2.P.length + 1) c2] 31)).alloc (.cells #[.int .i64 (d3 : Int), .int .i64 (o3 : Int)] 37)).setRow qx #[.int .i64 (S' : Int), .slice A2 (v2.P.length + 1) c2] := ⟨_, rfl⟩
        rw [← hWz] at HKX9 HS9 HB9 HD9 ⊢
        clear hWz
        obtain ⟨RAd, RCd, hMd⟩ := HD9.out.rows
        have HMd := Lib.hid hMd
        clear hMd
        have HXC : Hid (∀ W', Below Wz.heap.size Wz W' → W'.cell? ⟨qx, 0, none⟩ = some (.int .i64 (S' : Int)) ∧ W'.cell? ⟨qx, 1, none⟩ = some (.slice A2 (v2.P.length + 1) c2)) := fun W' hb => ⟨(HKX9.out.below HKX9.out.lt hb).cell 0, (HKX9.out.below HKX9.out.lt hb).cell 1⟩
        have h1S : 1 ≤ S' := by omega
        obtain ⟨N, hN, hN6⟩ : ∃ N : Nat, heldI m 1 S' = (N : Int) ∧ N ≤ 16777216 := by
          have h9 := heldI_in m 1 S' (by omega)
          exact ⟨(heldI m 1 S').toNat, by omega, by omega⟩
        have hnx2 := nxt_held (v := v2) h1S HOK2.out.qS m hN
        have hP2 : v2.P.length < 1000000 := by
          have h8 := HOK2.out.count
          have h9 := HFL2.out
          have hn20 := HF.out.1
          omega
        obtain ⟨d9, o9, hdo⟩ : ∃ d o, vat S' v2 N = (d, o) := ⟨_, _, rfl⟩
        have HROW := Lib.hid (fun W' (hb : Below Wz.heap.size Wz W') => RowW_c (HS9.out.below hb) HOK2.out hS6 hP2)
        have HC0 := Lib.hid ((Below.refl Wz.heap.size Wz).drew)
        have HNX : Hid (∀ W', Below Wz.heap.size Wz W' → Calls Try.prog 17 #[.pointer (some ⟨p, 0, none⟩), .int .i64 m] W' fun e w' => e = .returned (.agg #[.int .i64 (d9 : Int), .int .i64 (o9 : Int)]) ∧ Below W'.heap.size W' w') := fun W' hb => (NextW_c (HS9.out.below hb) HOK2.out hS6 (Nat.le_of_lt hP2) m HWM.out).mono fun e w' hq => by
          rw [hnx2, hdo] at hq
          exact hq
        have HHE : Hid (∀ W', Calls Try.prog 19 #[.int .i64 m, .int .i64 1, .int .i64 (S' : Int)] W' fun e w' => e = .returned (.int .i64 (N : Int)) ∧ W' = w') := fun W' => by
          have h9 := HeldI_c m 1 S' W'
          rw [hN] at h9
          exact h9
        have HRN : Hid (∀ W', Below Wz.heap.size Wz W' → Calls Try.prog 18 #[.agg #[.int .i64 (S' : Int), .slice A2 (v2.P.length + 1) c2], .int .i64 (N : Int)] W' fun e w' => e = .returned (.agg #[.int .i64 (d9 : Int), .int .i64 (o9 : Int)]) ∧ Below W'.heap.size W' w') := fun W' hb => (RNext_c (HD9.out.below hb) HOK2.out hS6 (Nat.le_of_lt hP2) N hN6).mono fun e w' hq => by
          rw [hdo] at hq
          exact hq
        clear hnx2 hdo hN hP2 hN6
        refine wp_region_held_drew (S := fun W' => W'.cell? ⟨qx, 0, none⟩ = some (.int .i64 (S' : Int)) ∧ W'.cell? ⟨qx, 1, none⟩ = some (.slice A2 (v2.P.length + 1) c2)) (by kernel_rfl) (HXC.out _ HC0.out) (fun hHeld => ?_)
        refine wpAnyH_take (i := 0) (oi := { dst := some 99, op := _, type := _, pos := _, after := _, guard := _ }) (v := ?_) rfl (by kernel_rfl) (by kernel_rfl) (by kernel_rfl) (fun _ _ _ h => h) (Or.inl ⟨by rfl, ?_⟩) (by assumption) ?_
        rotate_left
        · intro w' hSw
          try dsimp only at hSw
          go_simp
          try with_reducible rfl
        try simp only [Act.put, List.setIfInBounds_toArray, List.set_cons_zero, List.set_cons_succ]
        refine wpAnyH_take (i := 2) (oi := { dst := some 101, op := _, type := _, pos := _, after := _, guard := _ }) (v := ?_) rfl (by kernel_rfl) (by kernel_rfl) (by kernel_rfl) (fun _ _ _ h => h) (Or.inl ⟨by rfl, ?_⟩) (by assumption) ?_
        rotate_left
        · intro w' hSw
          try dsimp only at hSw
          go_simp
          try with_reducible rfl
        try simp only [Act.put, List.setIfInBounds_toArray, List.set_cons_zero, List.set_cons_succ]
        refine wpAnyH_take (i := 3) (oi := { dst := some 102, op := _, type := _, pos := _, after := _, guard := _ }) (v := ?_) rfl (by kernel_rfl) (by kernel_rfl) (by kernel_rfl) (fun _ _ _ h => h) (Or.inl ⟨by rfl, ?_⟩) (by assumption) ?_
        rotate_left
        · intro w' hSw
          try dsimp only at hSw
          go_simp
          try with_reducible rfl
        try simp only [Act.put, List.setIfInBounds_toArray, List.set_cons_zero, List.set_cons_succ]
        refine wpAnyH_ready (rs := [1]) (by kernel_rfl) (by simp) ?_
        refine AllReadyH.cons (o := { dst := some 100, op := _, type := _, pos := _, after := _, guard := _ }) rfl (fun K hK => ?_) AllReadyH.nil
        go_simp
        go_at_call 16
        refine (HROW.out _ HC0.out).mono ?_
        rintro e w1 ⟨g1, cR, RA1, RC1, rfl, hA1, hc1⟩
        try go_wp2_with fail
        have HA1 := Lib.hid hA1
        have HC1 := Lib.hid (HC0.out.trans (hc1.mono HC0.out.size))
        clear hA1 hc1
        refine hK.out _ _ ?_ (fun hHeld => ?_)
        · exact HXC.out _ HC1.out
        clear hK K
        try simp only [Act.put, List.setIfInBounds_toArray, List.set_cons_zero, List.set_cons_succ]
        refine wpAnyH_ready (rs := [4]) (by kernel_rfl) (by simp) ?_
        refine AllReadyH.cons (o := { dst := some 103, op := _, type := _, pos := _, after := _, guard := _ }) rfl (fun K hK => ?_) AllReadyH.nil
        go_simp
        go_at_call 15
        refine (RowsW_same HA1.out.min (MIn.below HMd.out HC1.out)).mono ?_
        rintro e _ ⟨rfl, q2, rfl⟩
        try go_wp2_with fail
        have HC2 := Lib.hid (below_drewN HC1.out q2)
        generalize w1.drewN q2 = w2 at *
        clear HA1 HMd
        refine hK.out _ _ ?_ (fun hHeld => ?_)
        · exact HXC.out _ HC2.out
        clear hK K
        try simp only [Act.put, List.setIfInBounds_toArray, List.set_cons_zero, List.set_cons_succ]
        refine wpAnyH_take (i := 5) (oi := { dst := some 104, op := _, type := _, pos := _, after := _, guard := _ }) (v := ?_) rfl (by kernel_rfl) (by kernel_rfl) (by kernel_rfl) (fun _ _ _ h => h) (Or.inl ⟨by rfl, ?_⟩) (by assumption) ?_
        rotate_left
        · intro w' hSw
          try dsimp only at hSw
          go_simp
          try with_reducible rfl
        try simp only [Act.put, List.setIfInBounds_toArray, List.set_cons_zero, List.set_cons_succ]
        refine wpAnyH_take (i := 6) (oi := { dst := some 105, op := _, type := _, pos := _, after := _, guard := _ }) (v := ?_) rfl (by kernel_rfl) (by kernel_rfl) (by kernel_rfl) (fun _ _ _ h => h) (Or.inl ⟨by rfl, ?_⟩) (by assumption) ?_
        rotate_left
        · intro w' hSw
          try dsimp only at hSw
          go_simp
          try with_reducible rfl
        try simp only [Act.put, List.setIfInBounds_toArray, List.set_cons_zero, List.set_cons_succ]
        refine wpAnyH_take (i := 7) (oi := { dst := some 106, op := _, type := _, pos := _, after := _, guard := _ }) (v := ?_) rfl (by kernel_rfl) (by kernel_rfl) (by kernel_rfl) (fun _ _ _ h => h) (Or.inl ⟨by rfl, ?_⟩) (by assumption) ?_
        rotate_left
        · intro w' hSw
          try dsimp only at hSw
          go_simp
          try with_reducible rfl
        try simp only [Act.put, List.setIfInBounds_toArray, List.set_cons_zero, List.set_cons_succ]
        refine wpAnyH_take (i := 8) (oi := { dst := some 107, op := _, type := _, pos := _, after := _, guard := _ }) (v := ?_) rfl (by kernel_rfl) (by kernel_rfl) (by kernel_rfl) (fun _ _ _ h => h) (Or.inl ⟨by rfl, ?_⟩) (by assumption) ?_
        rotate_left
        · intro w' hSw
          try dsimp only at hSw
          go_simp
          try with_reducible rfl
        try simp only [Act.put, List.setIfInBounds_toArray, List.set_cons_zero, List.set_cons_succ]
        refine wpAnyH_take (i := 10) (oi := { dst := some 109, op := _, type := _, pos := _, after := _, guard := _ }) (v := ?_) rfl (by kernel_rfl) (by kernel_rfl) (by kernel_rfl) (fun _ _ _ h => h) (Or.inl ⟨by rfl, ?_⟩) (by assumption) ?_
        rotate_left
        · intro w' hSw
          try dsimp only at hSw
          go_simp
          try with_reducible rfl
        try simp only [Act.put, List.setIfInBounds_toArray, List.set_cons_zero, List.set_cons_succ]
        refine wpAnyH_take (i := 11) (oi := { dst := some 110, op := _, type := _, pos := _, after := _, guard := _ }) (v := ?_) rfl (by kernel_rfl) (by kernel_rfl) (by kernel_rfl) (fun _ _ _ h => h) (Or.inl ⟨by rfl, ?_⟩) (by assumption) ?_
        rotate_left
        · intro w' hSw
          try dsimp only at hSw
          go_simp
          try with_reducible rfl
        try simp only [Act.put, List.setIfInBounds_toArray, List.set_cons_zero, List.set_cons_succ]
        refine wpAnyH_take (i := 12) (oi := { dst := some 111, op := _, type := _, pos := _, after := _, guard := _ }) (v := ?_) rfl (by kernel_rfl) (by kernel_rfl) (by kernel_rfl) (fun _ _ _ h => h) (Or.inl ⟨by rfl, ?_⟩) (by assumption) ?_
        rotate_left
        · intro w' hSw
          try dsimp only at hSw
          go_simp
          try with_reducible rfl
        try simp only [Act.put, List.setIfInBounds_toArray, List.set_cons_zero, List.set_cons_succ]
        refine wpAnyH_ready (rs := [9]) (by kernel_rfl) (by simp) ?_
        refine AllReadyH.cons (o := { dst := some 108, op := _, type := _, pos := _, after := _, guard := _ }) rfl (fun K hK => ?_) (AllReadyH.nil)
        go_simp
        go_at_call 17
        refine (HNX.out _ HC2.out).mono ?_
        rintro e wa ⟨rfl, hca⟩
        try go_wp2_with fail
        have HCA := Lib.hid (HC2.out.trans (hca.mono HC2.out.size))
        clear hca
        refine hK.out _ _ (HXC.out _ HCA.out) (fun hHeld => ?_)
        clear hK K
        try simp only [Act.put, List.setIfInBounds_toArray, List.set_cons_zero, List.set_cons_succ]
        refine wpAnyH_ready (rs := [13]) (by kernel_rfl) (by simp) ?_
        refine AllReadyH.cons (o := { dst := some 112, op := _, type := _, pos := _, after := _, guard := _ }) rfl (fun K hK => ?_) (AllReadyH.nil)
        go_simp
        go_at_call 19
        refine (HHE.out _).mono ?_
        rintro e _ ⟨rfl, rfl⟩
        try go_wp2_with fail
        refine hK.out _ _ (HXC.out _ HCA.out) (fun hHeld => ?_)
        clear hK K
        try simp only [Act.put, List.setIfInBounds_toArray, List.set_cons_zero, List.set_cons_succ]
        refine wpAnyH_ready (rs := [14]) (by kernel_rfl) (by simp) ?_
        refine AllReadyH.cons (o := { dst := some 113, op := _, type := _, pos := _, after := _, guard := _ }) rfl (fun K hK => ?_) (AllReadyH.nil)
        go_simp
        go_at_call 18
        refine (HRN.out _ HCA.out).mono ?_
        rintro e wb ⟨rfl, hcb⟩
        try go_wp2_with fail
        have HCB := Lib.hid (HCA.out.trans (hcb.mono HCA.out.size))
        clear hcb
        refine hK.out _ _ (HXC.out _ HCB.out) (fun hHeld => ?_)
        clear hK K
        try simp only [Act.put, List.setIfInBounds_toArray, List.set_cons_zero, List.set_cons_succ]
        refine wpAnyH_take (i := 15) (oi := { dst := some 114, op := _, type := _, pos := _, after := _, guard := _ }) (v := ?_) rfl (by kernel_rfl) (by kernel_rfl) (by kernel_rfl) (fun _ _ _ h => h) (Or.inl ⟨by rfl, ?_⟩) (by assumption) ?_
        rotate_left
        · intro w' hSw
          try dsimp only at hSw
          go_simp
          try with_reducible rfl
        try simp only [Act.put, List.setIfInBounds_toArray, List.set_cons_zero, List.set_cons_succ]
        refine wpAnyH_take (i := 16) (oi := { dst := some 115, op := _, type := _, pos := _, after := _, guard := _ }) (v := ?_) rfl (by kernel_rfl) (by kernel_rfl) (by kernel_rfl) (fun _ _ _ h => h) (Or.inl ⟨by rfl, ?_⟩) (by assumption) ?_
        rotate_left
        · intro w' hSw
          try dsimp only at hSw
          go_simp
          try with_reducible rfl
        try simp only [Act.put, List.setIfInBounds_toArray, List.set_cons_zero, List.set_cons_succ]
        refine wpAnyH_done (by kernel_rfl) ?_ _
        clear HNX HHE HRN HXC HROW
        go_wp2_with fail
        go_roundw
        case rel => exact ⟨k + 1, v2, F5, A2, c2, by omega, by go_num, HS9.out.below HCB.out, HOK2, HFL2, HB9.out.trans (HCB.out.mono HB9.out.size), HKX9.out.below HKX9.out.lt HCB.out, HD9.out.below HCB.out, HN5⟩
        case measure => simp [intOf]; omega
      
      · have k0 : ((K k : Int) == 0) = false := by rw [beq_eq_false_iff_ne]; exact hK0
        by_cases hK1 : K k = 1
        · have k1 : ((K k : Int) == 1) = true := by rw [hK1]; rfl
          clear hK0 hK1
          obtain ⟨v2, d3, o3, k3, er⟩ : ∃ v2 d o k3, recF S' v (R k) = (v2, d, o, k3) := ⟨_, _, _, _, rfl⟩
          have hok2 := HOK.out.rec_ (R k)
          have hfl2 : (recF S' v (R k)).1.flat.length ≤ 4 + 60 * (k + 1) := rec_flat_le (R k) hfl (by rw [HLR.out]; exact hlk)
          rw [er] at hok2 hfl2
          have HOK2 : Hid (VOk S' v2) := hok2
          have HFL2 : Hid (v2.flat.length ≤ 4 + 60 * (k + 1)) := hfl2
          clear hok2 hfl2
          have HRC := Lib.hid (Record_v (c := RC k) HS4.out HOK.out hS6 (by omega) HR4.out.row HFAR.out er)
          go_wp2_with fail
          refine HRC.out.mono ?_
          rintro e W5 ⟨F5, rfl, hk5, hs5, hf5⟩
          have hba := (Below.refl W5.heap.size W5).alloc (Nat.le_refl _) (.cells #[.int .i64 (d3 : Int), .int .i64 (o3 : Int)] 37)
          have HS6 := Lib.hid (hs5.below hba)
          have hB5 := HB4.out.trans (HS4.out.belowW hk5 HBS.out HB4.out.size)
          have HB6 := Lib.hid (hB5.trans (hba.mono hB5.size))
          have HR6 := Lib.hid ((HR4.out.keepF hk5 HFAR.out).below hba)
          have hk85 := hk5.blk HK8.out HN8.out
          have hkx5 := hk5.blk HKX.out hnx.out
          have HK86 := Lib.hid (hk85.below hk85.lt hba)
          have HKX6 := Lib.hid (hkx5.below hkx5.lt hba)
          have HD6 := Lib.hid ((HDW.out.work hk5 hf5).below hba)
          have HK12 := Lib.hid (Blk.new W5 37 #[.int .i64 (d3 : Int), .int .i64 (o3 : Int)])
          have HN5 : Hid (¬ F5 qx) := fun h => hnx.out (hf5 _ HKX.out.lt h)
          have HF5 : Hid (∀ y, F5 y → y < W5.heap.size) := fun y h => (hs5.sub y h).2
          have hx12 : qx < W5.heap.size := hkx5.lt
          have h812 : wr.heap.size < W5.heap.size := hk85.lt
          have z81' : (W5.alloc (.cells #[.int .i64 (d3 : Int), .int .i64 (o3 : Int)] 37)).cell? ⟨wr.heap.size, 1, none⟩ = some (.slice (RA k) (RL k) (RC k)) := HK86.out.cell 1
          have hsz6 : (W5.alloc (.cells #[.int .i64 (d3 : Int), .int .i64 (o3 : Int)] 37)).heap.size = W5.heap.size + 1 := by simp
          have HRR := Lib.hid (RRecord_v (cb := RC k) HD6.out HOK.out hS6 HR6.out (by omega) er)
          have tlx := ld_dw HKX6.out rfl
          clear hk5 hs5 hf5 hba hB5 hk85 hkx5 HS4 HB4 HR4 HK8 HKX HDW HN8 HRC z80 z81 hnx HFAR HR6 HD6
          generalize wr.heap.size = q8 at *
          go_wp2_with (with_reducible refine wpList_load_var qx _ rfl tlx ?_)
          generalize W5.alloc (.cells #[.int .i64 (d3 : Int), .int .i64 (o3 : Int)] 37) = W6 at *
          generalize W5.heap.size = q12 at *
          clear tlx
          refine HRR.out.mono ?_
          rintro e W7 ⟨A2, c2, rfl, hD7, hb7⟩
          have hq14 : q12 < W7.heap.size := by have := hb7.size; omega
          have HD7 := Lib.hid (hD7.mono (G' := fun y => ¬ F5 y ∧ y ≠ qx) (fun y _ hg => hg.elim id (fun hg => ⟨fun hF => by have := HF5.out y hF; omega, by omega⟩)))
          have hba := (Below.refl W7.heap.size W7).alloc (Nat.le_refl _) (.cells #[.int .i64 (S' : Int), .slice A2 (v2.P.length + 1) c2] 31)
          have hbb := (Below.refl (W7.alloc (.cells #[.int .i64 (S' : Int), .slice A2 (v2.P.length + 1) c2] 31)).heap.size _).alloc (Nat.le_refl _) (.cells #[.int .i64 (d3 : Int), .int .i64 (o3 : Int)] 37)
          have hb67 := hb7.trans (hba.mono hb7.size)
          have hb68 := hb67.trans (hbb.mono hb67.size)
          have HS8 := Lib.hid (HS6.out.below hb68)
          have HB8 := Lib.hid (HB6.out.trans (hb68.mono HB6.out.size))
          have HKX8 := Lib.hid (HKX6.out.below HKX6.out.lt hb68)
          have HK128 := Lib.hid (HK12.out.below HK12.out.lt hb68)
          have HD8 := Lib.hid ((HD7.out.below hba).below hbb)
          have hk14 := Blk.new W7 31 #[.int .i64 (S' : Int), .slice A2 (v2.P.length + 1) c2]
          have HK148 := Lib.hid (hk14.below hk14.lt hbb)
          have hz14 : (W7.alloc (.cells #[.int .i64 (S' : Int), .slice A2 (v2.P.length + 1) c2] 31)).heap.size = W7.heap.size + 1 := by simp
          have hk15 := Blk.new (W7.alloc (.cells #[.int .i64 (S' : Int), .slice A2 (v2.P.length + 1) c2] 31)) 37 #[.int .i64 (d3 : Int), .int .i64 (o3 : Int)]
          rw [hz14] at hk15
          have HK158 := Lib.hid hk15
          clear hba hbb hb67 hb68 hD7 hb7 HD7 HRR HS6 HB6 HKX6 HK12 HK86 z81' hsz6 hz14 hk14 hk15
          have tl14 := ld_dw HK148.out rfl
          have ts9 := st_dw HKX8.out rfl #[.int .i64 (S' : Int), .slice A2 (v2.P.length + 1) c2] rfl (by simp [Value.oneCell'])
          have h14n : qx ≠ W7.heap.size := by omega
          have hk9 := HKX8.out.setRow #[.int .i64 (S' : Int), .slice A2 (v2.P.length + 1) c2]
          have hk129 := blk_setRow_ne HK128.out (show q12 ≠ qx by omega) #[.int .i64 (S' : Int), .slice A2 (v2.P.length + 1) c2]
          have hk159 := blk_setRow_ne HK158.out (show W7.heap.size + 1 ≠ qx by omega) #[.int .i64 (S' : Int), .slice A2 (v2.P.length + 1) c2]
          have hS9 := HS8.out.setRow HN5.out #[.int .i64 (S' : Int), .slice A2 (v2.P.length + 1) c2]
          have hB9 := below_setRowV HB8.out (show w.heap.size ≤ qx from HXB.out) #[.int .i64 (S' : Int), .slice A2 (v2.P.length + 1) c2]
          have hD9 := HD8.out.box HKX8.out (fun x e => by cases e) (fun x e => by cases e) (fun y o e => by obtain ⟨_, _, _, _, h3⟩ := HD8.out; exact (h3 y o e).2) #[.int .i64 (S' : Int), .slice A2 (v2.P.length + 1) c2]
          have HKX9 := Lib.hid hk9
          have HS9 := Lib.hid hS9
          have HB9 := Lib.hid hB9
          have HD9 := Lib.hid hD9
          have tl12 := ld_pl hk129 rfl
          have tl15 := ld_pl hk159 rfl
          clear hk9 hk129 hk159 hS9 hB9 hD9 HS8 HB8 HD8 HK128 HK148 HK158
          go_wp2_with (first
            | (with_reducible refine wpList_load_var W7.heap.size _ rfl tl14 ?_)
            | (with_reducible refine wpList_store_var _ _ _ (by with_unfolding_all rfl) (by with_unfolding_all rfl) ts9 ?_)
            | (with_reducible refine wpList_load_var q12 _ rfl tl12 ?_)
            | (with_reducible refine wpList_load_var (W7.heap.size + 1) _ rfl tl15 ?_))
          clear tl14 ts9 tl12 tl15
          obtain ⟨Wz, hWz⟩ : ∃ Wz, Wz = ((W7.alloc (.cells #[.int .i64 (S' : Int), .slice A2 (v2.P.length + 1) c2] 31)).alloc (.cells #[.int .i64 (d3 : Int), .int .i64 (o3 : Int)] 37)).setRow qx #[.int .i64 (S' : Int), .slice A2 (v2.P.length + 1) c2] := ⟨_, rfl⟩
          rw [← hWz] at HKX9 HS9 HB9 HD9 ⊢
          clear hWz
          obtain ⟨RAd, RCd, hMd⟩ := HD9.out.rows
          have HMd := Lib.hid hMd
          clear hMd
          have HXC : Hid (∀ W', Below Wz.heap.size Wz W' → W'.cell? ⟨qx, 0, none⟩ = some (.int .i64 (S' : Int)) ∧ W'.cell? ⟨qx, 1, none⟩ = some (.slice A2 (v2.P.length + 1) c2)) := fun W' hb => ⟨(HKX9.out.below HKX9.out.lt hb).cell 0, (HKX9.out.below HKX9.out.lt hb).cell 1⟩
          have h1S : 1 ≤ S' := by omega
          obtain ⟨N, hN, hN6⟩ : ∃ N : Nat, heldI m 1 S' = (N : Int) ∧ N ≤ 16777216 := by
            have h9 := heldI_in m 1 S' (by omega)
            exact ⟨(heldI m 1 S').toNat, by omega, by omega⟩
          have hnx2 := nxt_held (v := v2) h1S HOK2.out.qS m hN
          have hP2 : v2.P.length < 1000000 := by
            have h8 := HOK2.out.count
            have h9 := HFL2.out
            have hn20 := HF.out.1
            omega
          obtain ⟨d9, o9, hdo⟩ : ∃ d o, vat S' v2 N = (d, o) := ⟨_, _, rfl⟩
          have HROW := Lib.hid (fun W' (hb : Below Wz.heap.size Wz W') => RowW_c (HS9.out.below hb) HOK2.out hS6 hP2)
          have HC0 := Lib.hid ((Below.refl Wz.heap.size Wz).drew)
          have HNX : Hid (∀ W', Below Wz.heap.size Wz W' → Calls Try.prog 17 #[.pointer (some ⟨p, 0, none⟩), .int .i64 m] W' fun e w' => e = .returned (.agg #[.int .i64 (d9 : Int), .int .i64 (o9 : Int)]) ∧ Below W'.heap.size W' w') := fun W' hb => (NextW_c (HS9.out.below hb) HOK2.out hS6 (Nat.le_of_lt hP2) m HWM.out).mono fun e w' hq => by
            rw [hnx2, hdo] at hq
            exact hq
          have HHE : Hid (∀ W', Calls Try.prog 19 #[.int .i64 m, .int .i64 1, .int .i64 (S' : Int)] W' fun e w' => e = .returned (.int .i64 (N : Int)) ∧ W' = w') := fun W' => by
            have h9 := HeldI_c m 1 S' W'
            rw [hN] at h9
            exact h9
          have HRN : Hid (∀ W', Below Wz.heap.size Wz W' → Calls Try.prog 18 #[.agg #[.int .i64 (S' : Int), .slice A2 (v2.P.length + 1) c2], .int .i64 (N : Int)] W' fun e w' => e = .returned (.agg #[.int .i64 (d9 : Int), .int .i64 (o9 : Int)]) ∧ Below W'.heap.size W' w') := fun W' hb => (RNext_c (HD9.out.below hb) HOK2.out hS6 (Nat.le_of_lt hP2) N hN6).mono fun e w' hq => by
            rw [hdo] at hq
            exact hq
          clear hnx2 hdo hN hP2 hN6
          refine wp_region_held_drew (S := fun W' => W'.cell? ⟨qx, 0, none⟩ = some (.int .i64 (S' : Int)) ∧ W'.cell? ⟨qx, 1, none⟩ = some (.slice A2 (v2.P.length + 1) c2)) (by kernel_rfl) (HXC.out _ HC0.out) (fun hHeld => ?_)
          refine wpAnyH_take (i := 0) (oi := { dst := some 99, op := _, type := _, pos := _, after := _, guard := _ }) (v := ?_) rfl (by kernel_rfl) (by kernel_rfl) (by kernel_rfl) (fun _ _ _ h => h) (Or.inl ⟨by rfl, ?_⟩) (by assumption) ?_
          rotate_left
          · intro w' hSw
            try dsimp only at hSw
            go_simp
            try with_reducible rfl
          try simp only [Act.put, List.setIfInBounds_toArray, List.set_cons_zero, List.set_cons_succ]
          refine wpAnyH_take (i := 2) (oi := { dst := some 101, op := _, type := _, pos := _, after := _, guard := _ }) (v := ?_) rfl (by kernel_rfl) (by kernel_rfl) (by kernel_rfl) (fun _ _ _ h => h) (Or.inl ⟨by rfl, ?_⟩) (by assumption) ?_
          rotate_left
          · intro w' hSw
            try dsimp only at hSw
            go_simp
            try with_reducible rfl
          try simp only [Act.put, List.setIfInBounds_toArray, List.set_cons_zero, List.set_cons_succ]
          refine wpAnyH_take (i := 3) (oi := { dst := some 102, op := _, type := _, pos := _, after := _, guard := _ }) (v := ?_) rfl (by kernel_rfl) (by kernel_rfl) (by kernel_rfl) (fun _ _ _ h => h) (Or.inl ⟨by rfl, ?_⟩) (by assumption) ?_
          rotate_left
          · intro w' hSw
            try dsimp only at hSw
            go_simp
            try with_reducible rfl
          try simp only [Act.put, List.setIfInBounds_toArray, List.set_cons_zero, List.set_cons_succ]
          refine wpAnyH_ready (rs := [1]) (by kernel_rfl) (by simp) ?_
          refine AllReadyH.cons (o := { dst := some 100, op := _, type := _, pos := _, after := _, guard := _ }) rfl (fun K hK => ?_) AllReadyH.nil
          go_simp
          go_at_call 16
          refine (HROW.out _ HC0.out).mono ?_
          rintro e w1 ⟨g1, cR, RA1, RC1, rfl, hA1, hc1⟩
          try go_wp2_with fail
          have HA1 := Lib.hid hA1
          have HC1 := Lib.hid (HC0.out.trans (hc1.mono HC0.out.size))
          clear hA1 hc1
          refine hK.out _ _ ?_ (fun hHeld => ?_)
          · exact HXC.out _ HC1.out
          clear hK K
          try simp only [Act.put, List.setIfInBounds_toArray, List.set_cons_zero, List.set_cons_succ]
          refine wpAnyH_ready (rs := [4]) (by kernel_rfl) (by simp) ?_
          refine AllReadyH.cons (o := { dst := some 103, op := _, type := _, pos := _, after := _, guard := _ }) rfl (fun K hK => ?_) AllReadyH.nil
          go_simp
          go_at_call 15
          refine (RowsW_same HA1.out.min (MIn.below HMd.out HC1.out)).mono ?_
          rintro e _ ⟨rfl, q2, rfl⟩
          try go_wp2_with fail
          have HC2 := Lib.hid (below_drewN HC1.out q2)
          generalize w1.drewN q2 = w2 at *
          clear HA1 HMd
          refine hK.out _ _ ?_ (fun hHeld => ?_)
          · exact HXC.out _ HC2.out
          clear hK K
          try simp only [Act.put, List.setIfInBounds_toArray, List.set_cons_zero, List.set_cons_succ]
          refine wpAnyH_take (i := 5) (oi := { dst := some 104, op := _, type := _, pos := _, after := _, guard := _ }) (v := ?_) rfl (by kernel_rfl) (by kernel_rfl) (by kernel_rfl) (fun _ _ _ h => h) (Or.inl ⟨by rfl, ?_⟩) (by assumption) ?_
          rotate_left
          · intro w' hSw
            try dsimp only at hSw
            go_simp
            try with_reducible rfl
          try simp only [Act.put, List.setIfInBounds_toArray, List.set_cons_zero, List.set_cons_succ]
          refine wpAnyH_take (i := 6) (oi := { dst := some 105, op := _, type := _, pos := _, after := _, guard := _ }) (v := ?_) rfl (by kernel_rfl) (by kernel_rfl) (by kernel_rfl) (fun _ _ _ h => h) (Or.inl ⟨by rfl, ?_⟩) (by assumption) ?_
          rotate_left
          · intro w' hSw
            try dsimp only at hSw
            go_simp
            try with_reducible rfl
          try simp only [Act.put, List.setIfInBounds_toArray, List.set_cons_zero, List.set_cons_succ]
          refine wpAnyH_take (i := 7) (oi := { dst := some 106, op := _, type := _, pos := _, after := _, guard := _ }) (v := ?_) rfl (by kernel_rfl) (by kernel_rfl) (by kernel_rfl) (fun _ _ _ h => h) (Or.inl ⟨by rfl, ?_⟩) (by assumption) ?_
          rotate_left
          · intro w' hSw
            try dsimp only at hSw
            go_simp
            try with_reducible rfl
          try simp only [Act.put, List.setIfInBounds_toArray, List.set_cons_zero, List.set_cons_succ]
          refine wpAnyH_take (i := 8) (oi := { dst := some 107, op := _, type := _, pos := _, after := _, guard := _ }) (v := ?_) rfl (by kernel_rfl) (by kernel_rfl) (by kernel_rfl) (fun _ _ _ h => h) (Or.inl ⟨by rfl, ?_⟩) (by assumption) ?_
          rotate_left
          · intro w' hSw
            try dsimp only at hSw
            go_simp
            try with_reducible rfl
          try simp only [Act.put, List.setIfInBounds_toArray, List.set_cons_zero, List.set_cons_succ]
          refine wpAnyH_take (i := 10) (oi := { dst := some 109, op := _, type := _, pos := _, after := _, guard := _ }) (v := ?_) rfl (by kernel_rfl) (by kernel_rfl) (by kernel_rfl) (fun _ _ _ h => h) (Or.inl ⟨by rfl, ?_⟩) (by assumption) ?_
          rotate_left
          · intro w' hSw
            try dsimp only at hSw
            go_simp
            try with_reducible rfl
          try simp only [Act.put, List.setIfInBounds_toArray, List.set_cons_zero, List.set_cons_succ]
          refine wpAnyH_take (i := 11) (oi := { dst := some 110, op := _, type := _, pos := _, after := _, guard := _ }) (v := ?_) rfl (by kernel_rfl) (by kernel_rfl) (by kernel_rfl) (fun _ _ _ h => h) (Or.inl ⟨by rfl, ?_⟩) (by assumption) ?_
          rotate_left
          · intro w' hSw
            try dsimp only at hSw
            go_simp
            try with_reducible rfl
          try simp only [Act.put, List.setIfInBounds_toArray, List.set_cons_zero, List.set_cons_succ]
          refine wpAnyH_take (i := 12) (oi := { dst := some 111, op := _, type := _, pos := _, after := _, guard := _ }) (v := ?_) rfl (by kernel_rfl) (by kernel_rfl) (by kernel_rfl) (fun _ _ _ h => h) (Or.inl ⟨by rfl, ?_⟩) (by assumption) ?_
          rotate_left
          · intro w' hSw
            try dsimp only at hSw
            go_simp
            try with_reducible rfl
          try simp only [Act.put, List.setIfInBounds_toArray, List.set_cons_zero, List.set_cons_succ]
          refine wpAnyH_ready (rs := [9]) (by kernel_rfl) (by simp) ?_
          refine AllReadyH.cons (o := { dst := some 108, op := _, type := _, pos := _, after := _, guard := _ }) rfl (fun K hK => ?_) (AllReadyH.nil)
          go_simp
          go_at_call 17
          refine (HNX.out _ HC2.out).mono ?_
          rintro e wa ⟨rfl, hca⟩
          try go_wp2_with fail
          have HCA := Lib.hid (HC2.out.trans (hca.mono HC2.out.size))
          clear hca
          refine hK.out _ _ (HXC.out _ HCA.out) (fun hHeld => ?_)
          clear hK K
          try simp only [Act.put, List.setIfInBounds_toArray, List.set_cons_zero, List.set_cons_succ]
          refine wpAnyH_ready (rs := [13]) (by kernel_rfl) (by simp) ?_
          refine AllReadyH.cons (o := { dst := some 112, op := _, type := _, pos := _, after := _, guard := _ }) rfl (fun K hK => ?_) (AllReadyH.nil)
          go_simp
          go_at_call 19
          refine (HHE.out _).mono ?_
          rintro e _ ⟨rfl, rfl⟩
          try go_wp2_with fail
          refine hK.out _ _ (HXC.out _ HCA.out) (fun hHeld => ?_)
          clear hK K
          try simp only [Act.put, List.setIfInBounds_toArray, List.set_cons_zero, List.set_cons_succ]
          refine wpAnyH_ready (rs := [14]) (by kernel_rfl) (by simp) ?_
          refine AllReadyH.cons (o := { dst := some 113, op := _, type := _, pos := _, after := _, guard := _ }) rfl (fun K hK => ?_) (AllReadyH.nil)
          go_simp
          go_at_call 18
          refine (HRN.out _ HCA.out).mono ?_
          rintro e wb ⟨rfl, hcb⟩
          try go_wp2_with fail
          have HCB := Lib.hid (HCA.out.trans (hcb.mono HCA.out.size))
          clear hcb
          refine hK.out _ _ (HXC.out _ HCB.out) (fun hHeld => ?_)
          clear hK K
          try simp only [Act.put, List.setIfInBounds_toArray, List.set_cons_zero, List.set_cons_succ]
          refine wpAnyH_take (i := 15) (oi := { dst := some 114, op := _, type := _, pos := _, after := _, guard := _ }) (v := ?_) rfl (by kernel_rfl) (by kernel_rfl) (by kernel_rfl) (fun _ _ _ h => h) (Or.inl ⟨by rfl, ?_⟩) (by assumption) ?_
          rotate_left
          · intro w' hSw
            try dsimp only at hSw
            go_simp
            try with_reducible rfl
          try simp only [Act.put, List.setIfInBounds_toArray, List.set_cons_zero, List.set_cons_succ]
          refine wpAnyH_take (i := 16) (oi := { dst := some 115, op := _, type := _, pos := _, after := _, guard := _ }) (v := ?_) rfl (by kernel_rfl) (by kernel_rfl) (by kernel_rfl) (fun _ _ _ h => h) (Or.inl ⟨by rfl, ?_⟩) (by assumption) ?_
          rotate_left
          · intro w' hSw
            try dsimp only at hSw
            go_simp
            try with_reducible rfl
          try simp only [Act.put, List.setIfInBounds_toArray, List.set_cons_zero, List.set_cons_succ]
          refine wpAnyH_done (by kernel_rfl) ?_ _
          clear HNX HHE HRN HXC HROW
          go_wp2_with fail
          go_roundw
          case rel => exact ⟨k + 1, v2, F5, A2, c2, by omega, by go_num, HS9.out.below HCB.out, HOK2, HFL2, HB9.out.trans (HCB.out.mono HB9.out.size), HKX9.out.below HKX9.out.lt HCB.out, HD9.out.below HCB.out, HN5⟩
          case measure => simp [intOf]; omega
      
        · have k1 : ((K k : Int) == 1) = false := by rw [beq_eq_false_iff_ne]; exact hK1
          clear hK0 hK1
          obtain ⟨v2, ev⟩ : ∃ v2, vdata S' v (R k) = v2 := ⟨_, rfl⟩
          obtain ⟨d3, o3, ea⟩ : ∃ d o, vat S' v 1 = (d, o) := ⟨_, _, rfl⟩
          have hok2 := VOk.data (show 1 ≤ S' by omega) (R k) HOK.out
          have hfl2 : (vdata S' v (R k)).flat.length ≤ 4 + 60 * (k + 1) := vdata_flat_le (R k) hfl (by rw [HLR.out]; exact hlk)
          rw [ev] at hok2 hfl2
          have HOK2 : Hid (VOk S' v2) := hok2
          have HFL2 : Hid (v2.flat.length ≤ 4 + 60 * (k + 1)) := hfl2
          clear hok2 hfl2
          have HRC := Lib.hid (Data_v (c := RC k) HS4.out HOK.out hS6 (by omega) HR4.out HFAR.out ea ev)
          go_wp2_with fail
          refine HRC.out.mono ?_
          rintro e W5 ⟨F5, rfl, hk5, hs5, hf5⟩
          have hba := (Below.refl W5.heap.size W5).alloc (Nat.le_refl _) (.cells #[.int .i64 (d3 : Int), .int .i64 (o3 : Int)] 37)
          have HS6 := Lib.hid (hs5.below hba)
          have hB5 := HB4.out.trans (HS4.out.belowW hk5 HBS.out HB4.out.size)
          have HB6 := Lib.hid (hB5.trans (hba.mono hB5.size))
          have HR6 := Lib.hid ((HR4.out.keepF hk5 HFAR.out).below hba)
          have hk85 := hk5.blk HK8.out HN8.out
          have hkx5 := hk5.blk HKX.out hnx.out
          have HK86 := Lib.hid (hk85.below hk85.lt hba)
          have HKX6 := Lib.hid (hkx5.below hkx5.lt hba)
          have HD6 := Lib.hid ((HDW.out.work hk5 hf5).below hba)
          have HK12 := Lib.hid (Blk.new W5 37 #[.int .i64 (d3 : Int), .int .i64 (o3 : Int)])
          have HN5 : Hid (¬ F5 qx) := fun h => hnx.out (hf5 _ HKX.out.lt h)
          have HF5 : Hid (∀ y, F5 y → y < W5.heap.size) := fun y h => (hs5.sub y h).2
          have hx12 : qx < W5.heap.size := hkx5.lt
          have h812 : wr.heap.size < W5.heap.size := hk85.lt
          have z81' : (W5.alloc (.cells #[.int .i64 (d3 : Int), .int .i64 (o3 : Int)] 37)).cell? ⟨wr.heap.size, 1, none⟩ = some (.slice (RA k) (RL k) (RC k)) := HK86.out.cell 1
          have hsz6 : (W5.alloc (.cells #[.int .i64 (d3 : Int), .int .i64 (o3 : Int)] 37)).heap.size = W5.heap.size + 1 := by simp
          have HRR := Lib.hid (RData_v (cb := RC k) HD6.out HOK.out hS6 HR6.out (by omega) ea ev)
          have tlx := ld_dw HKX6.out rfl
          clear hk5 hs5 hf5 hba hB5 hk85 hkx5 HS4 HB4 HR4 HK8 HKX HDW HN8 HRC z80 z81 hnx HFAR HR6 HD6
          generalize wr.heap.size = q8 at *
          go_wp2_with (with_reducible refine wpList_load_var qx _ rfl tlx ?_)
          generalize W5.alloc (.cells #[.int .i64 (d3 : Int), .int .i64 (o3 : Int)] 37) = W6 at *
          generalize W5.heap.size = q12 at *
          clear tlx
          refine HRR.out.mono ?_
          rintro e W7 ⟨A2, c2, rfl, hD7, hb7⟩
          have hq14 : q12 < W7.heap.size := by have := hb7.size; omega
          have HD7 := Lib.hid (hD7.mono (G' := fun y => ¬ F5 y ∧ y ≠ qx) (fun y _ hg => hg.elim id (fun hg => ⟨fun hF => by have := HF5.out y hF; omega, by omega⟩)))
          have hba := (Below.refl W7.heap.size W7).alloc (Nat.le_refl _) (.cells #[.int .i64 (S' : Int), .slice A2 (v2.P.length + 1) c2] 31)
          have hbb := (Below.refl (W7.alloc (.cells #[.int .i64 (S' : Int), .slice A2 (v2.P.length + 1) c2] 31)).heap.size _).alloc (Nat.le_refl _) (.cells #[.int .i64 (d3 : Int), .int .i64 (o3 : Int)] 37)
          have hb67 := hb7.trans (hba.mono hb7.size)
          have hb68 := hb67.trans (hbb.mono hb67.size)
          have HS8 := Lib.hid (HS6.out.below hb68)
          have HB8 := Lib.hid (HB6.out.trans (hb68.mono HB6.out.size))
          have HKX8 := Lib.hid (HKX6.out.below HKX6.out.lt hb68)
          have HK128 := Lib.hid (HK12.out.below HK12.out.lt hb68)
          have HD8 := Lib.hid ((HD7.out.below hba).below hbb)
          have hk14 := Blk.new W7 31 #[.int .i64 (S' : Int), .slice A2 (v2.P.length + 1) c2]
          have HK148 := Lib.hid (hk14.below hk14.lt hbb)
          have hz14 : (W7.alloc (.cells #[.int .i64 (S' : Int), .slice A2 (v2.P.length + 1) c2] 31)).heap.size = W7.heap.size + 1 := by simp
          have hk15 := Blk.new (W7.alloc (.cells #[.int .i64 (S' : Int), .slice A2 (v2.P.length + 1) c2] 31)) 37 #[.int .i64 (d3 : Int), .int .i64 (o3 : Int)]
          rw [hz14] at hk15
          have HK158 := Lib.hid hk15
          clear hba hbb hb67 hb68 hD7 hb7 HD7 HRR HS6 HB6 HKX6 HK12 HK86 z81' hsz6 hz14 hk14 hk15
          have tl14 := ld_dw HK148.out rfl
          have ts9 := st_dw HKX8.out rfl #[.int .i64 (S' : Int), .slice A2 (v2.P.length + 1) c2] rfl (by simp [Value.oneCell'])
          have h14n : qx ≠ W7.heap.size := by omega
          have hk9 := HKX8.out.setRow #[.int .i64 (S' : Int), .slice A2 (v2.P.length + 1) c2]
          have hk129 := blk_setRow_ne HK128.out (show q12 ≠ qx by omega) #[.int .i64 (S' : Int), .slice A2 (v2.P.length + 1) c2]
          have hk159 := blk_setRow_ne HK158.out (show W7.heap.size + 1 ≠ qx by omega) #[.int .i64 (S' : Int), .slice A2 (v2.P.length + 1) c2]
          have hS9 := HS8.out.setRow HN5.out #[.int .i64 (S' : Int), .slice A2 (v2.P.length + 1) c2]
          have hB9 := below_setRowV HB8.out (show w.heap.size ≤ qx from HXB.out) #[.int .i64 (S' : Int), .slice A2 (v2.P.length + 1) c2]
          have hD9 := HD8.out.box HKX8.out (fun x e => by cases e) (fun x e => by cases e) (fun y o e => by obtain ⟨_, _, _, _, h3⟩ := HD8.out; exact (h3 y o e).2) #[.int .i64 (S' : Int), .slice A2 (v2.P.length + 1) c2]
          have HKX9 := Lib.hid hk9
          have HS9 := Lib.hid hS9
          have HB9 := Lib.hid hB9
          have HD9 := Lib.hid hD9
          have tl12 := ld_pl hk129 rfl
          have tl15 := ld_pl hk159 rfl
          clear hk9 hk129 hk159 hS9 hB9 hD9 HS8 HB8 HD8 HK128 HK148 HK158
          go_wp2_with (first
            | (with_reducible refine wpList_load_var W7.heap.size _ rfl tl14 ?_)
            | (with_reducible refine wpList_store_var _ _ _ (by with_unfolding_all rfl) (by with_unfolding_all rfl) ts9 ?_)
            | (with_reducible refine wpList_load_var q12 _ rfl tl12 ?_)
            | (with_reducible refine wpList_load_var (W7.heap.size + 1) _ rfl tl15 ?_))
          clear tl14 ts9 tl12 tl15
          obtain ⟨Wz, hWz⟩ : ∃ Wz, Wz = ((W7.alloc (.cells #[.int .i64 (S' : Int), .slice A2 (v2.P.length + 1) c2] 31)).alloc (.cells #[.int .i64 (d3 : Int), .int .i64 (o3 : Int)] 37)).setRow qx #[.int .i64 (S' : Int), .slice A2 (v2.P.length + 1) c2] := ⟨_, rfl⟩
          rw [← hWz] at HKX9 HS9 HB9 HD9 ⊢
          clear hWz
          obtain ⟨RAd, RCd, hMd⟩ := HD9.out.rows
          have HMd := Lib.hid hMd
          clear hMd
          have HXC : Hid (∀ W', Below Wz.heap.size Wz W' → W'.cell? ⟨qx, 0, none⟩ = some (.int .i64 (S' : Int)) ∧ W'.cell? ⟨qx, 1, none⟩ = some (.slice A2 (v2.P.length + 1) c2)) := fun W' hb => ⟨(HKX9.out.below HKX9.out.lt hb).cell 0, (HKX9.out.below HKX9.out.lt hb).cell 1⟩
          have h1S : 1 ≤ S' := by omega
          obtain ⟨N, hN, hN6⟩ : ∃ N : Nat, heldI m 1 S' = (N : Int) ∧ N ≤ 16777216 := by
            have h9 := heldI_in m 1 S' (by omega)
            exact ⟨(heldI m 1 S').toNat, by omega, by omega⟩
          have hnx2 := nxt_held (v := v2) h1S HOK2.out.qS m hN
          have hP2 : v2.P.length < 1000000 := by
            have h8 := HOK2.out.count
            have h9 := HFL2.out
            have hn20 := HF.out.1
            omega
          obtain ⟨d9, o9, hdo⟩ : ∃ d o, vat S' v2 N = (d, o) := ⟨_, _, rfl⟩
          have HROW := Lib.hid (fun W' (hb : Below Wz.heap.size Wz W') => RowW_c (HS9.out.below hb) HOK2.out hS6 hP2)
          have HC0 := Lib.hid ((Below.refl Wz.heap.size Wz).drew)
          have HNX : Hid (∀ W', Below Wz.heap.size Wz W' → Calls Try.prog 17 #[.pointer (some ⟨p, 0, none⟩), .int .i64 m] W' fun e w' => e = .returned (.agg #[.int .i64 (d9 : Int), .int .i64 (o9 : Int)]) ∧ Below W'.heap.size W' w') := fun W' hb => (NextW_c (HS9.out.below hb) HOK2.out hS6 (Nat.le_of_lt hP2) m HWM.out).mono fun e w' hq => by
            rw [hnx2, hdo] at hq
            exact hq
          have HHE : Hid (∀ W', Calls Try.prog 19 #[.int .i64 m, .int .i64 1, .int .i64 (S' : Int)] W' fun e w' => e = .returned (.int .i64 (N : Int)) ∧ W' = w') := fun W' => by
            have h9 := HeldI_c m 1 S' W'
            rw [hN] at h9
            exact h9
          have HRN : Hid (∀ W', Below Wz.heap.size Wz W' → Calls Try.prog 18 #[.agg #[.int .i64 (S' : Int), .slice A2 (v2.P.length + 1) c2], .int .i64 (N : Int)] W' fun e w' => e = .returned (.agg #[.int .i64 (d9 : Int), .int .i64 (o9 : Int)]) ∧ Below W'.heap.size W' w') := fun W' hb => (RNext_c (HD9.out.below hb) HOK2.out hS6 (Nat.le_of_lt hP2) N hN6).mono fun e w' hq => by
            rw [hdo] at hq
            exact hq
          clear hnx2 hdo hN hP2 hN6
          refine wp_region_held_drew (S := fun W' => W'.cell? ⟨qx, 0, none⟩ = some (.int .i64 (S' : Int)) ∧ W'.cell? ⟨qx, 1, none⟩ = some (.slice A2 (v2.P.length + 1) c2)) (by kernel_rfl) (HXC.out _ HC0.out) (fun hHeld => ?_)
          refine wpAnyH_take (i := 0) (oi := { dst := some 99, op := _, type := _, pos := _, after := _, guard := _ }) (v := ?_) rfl (by kernel_rfl) (by kernel_rfl) (by kernel_rfl) (fun _ _ _ h => h) (Or.inl ⟨by rfl, ?_⟩) (by assumption) ?_
          rotate_left
          · intro w' hSw
            try dsimp only at hSw
            go_simp
            try with_reducible rfl
          try simp only [Act.put, List.setIfInBounds_toArray, List.set_cons_zero, List.set_cons_succ]
          refine wpAnyH_take (i := 2) (oi := { dst := some 101, op := _, type := _, pos := _, after := _, guard := _ }) (v := ?_) rfl (by kernel_rfl) (by kernel_rfl) (by kernel_rfl) (fun _ _ _ h => h) (Or.inl ⟨by rfl, ?_⟩) (by assumption) ?_
          rotate_left
          · intro w' hSw
            try dsimp only at hSw
            go_simp
            try with_reducible rfl
          try simp only [Act.put, List.setIfInBounds_toArray, List.set_cons_zero, List.set_cons_succ]
          refine wpAnyH_take (i := 3) (oi := { dst := some 102, op := _, type := _, pos := _, after := _, guard := _ }) (v := ?_) rfl (by kernel_rfl) (by kernel_rfl) (by kernel_rfl) (fun _ _ _ h => h) (Or.inl ⟨by rfl, ?_⟩) (by assumption) ?_
          rotate_left
          · intro w' hSw
            try dsimp only at hSw
            go_simp
            try with_reducible rfl
          try simp only [Act.put, List.setIfInBounds_toArray, List.set_cons_zero, List.set_cons_succ]
          refine wpAnyH_ready (rs := [1]) (by kernel_rfl) (by simp) ?_
          refine AllReadyH.cons (o := { dst := some 100, op := _, type := _, pos := _, after := _, guard := _ }) rfl (fun K hK => ?_) AllReadyH.nil
          go_simp
          go_at_call 16
          refine (HROW.out _ HC0.out).mono ?_
          rintro e w1 ⟨g1, cR, RA1, RC1, rfl, hA1, hc1⟩
          try go_wp2_with fail
          have HA1 := Lib.hid hA1
          have HC1 := Lib.hid (HC0.out.trans (hc1.mono HC0.out.size))
          clear hA1 hc1
          refine hK.out _ _ ?_ (fun hHeld => ?_)
          · exact HXC.out _ HC1.out
          clear hK K
          try simp only [Act.put, List.setIfInBounds_toArray, List.set_cons_zero, List.set_cons_succ]
          refine wpAnyH_ready (rs := [4]) (by kernel_rfl) (by simp) ?_
          refine AllReadyH.cons (o := { dst := some 103, op := _, type := _, pos := _, after := _, guard := _ }) rfl (fun K hK => ?_) AllReadyH.nil
          go_simp
          go_at_call 15
          refine (RowsW_same HA1.out.min (MIn.below HMd.out HC1.out)).mono ?_
          rintro e _ ⟨rfl, q2, rfl⟩
          try go_wp2_with fail
          have HC2 := Lib.hid (below_drewN HC1.out q2)
          generalize w1.drewN q2 = w2 at *
          clear HA1 HMd
          refine hK.out _ _ ?_ (fun hHeld => ?_)
          · exact HXC.out _ HC2.out
          clear hK K
          try simp only [Act.put, List.setIfInBounds_toArray, List.set_cons_zero, List.set_cons_succ]
          refine wpAnyH_take (i := 5) (oi := { dst := some 104, op := _, type := _, pos := _, after := _, guard := _ }) (v := ?_) rfl (by kernel_rfl) (by kernel_rfl) (by kernel_rfl) (fun _ _ _ h => h) (Or.inl ⟨by rfl, ?_⟩) (by assumption) ?_
          rotate_left
          · intro w' hSw
            try dsimp only at hSw
            go_simp
            try with_reducible rfl
          try simp only [Act.put, List.setIfInBounds_toArray, List.set_cons_zero, List.set_cons_succ]
          refine wpAnyH_take (i := 6) (oi := { dst := some 105, op := _, type := _, pos := _, after := _, guard := _ }) (v := ?_) rfl (by kernel_rfl) (by kernel_rfl) (by kernel_rfl) (fun _ _ _ h => h) (Or.inl ⟨by rfl, ?_⟩) (by assumption) ?_
          rotate_left
          · intro w' hSw
            try dsimp only at hSw
            go_simp
            try with_reducible rfl
          try simp only [Act.put, List.setIfInBounds_toArray, List.set_cons_zero, List.set_cons_succ]
          refine wpAnyH_take (i := 7) (oi := { dst := some 106, op := _, type := _, pos := _, after := _, guard := _ }) (v := ?_) rfl (by kernel_rfl) (by kernel_rfl) (by kernel_rfl) (fun _ _ _ h => h) (Or.inl ⟨by rfl, ?_⟩) (by assumption) ?_
          rotate_left
          · intro w' hSw
            try dsimp only at hSw
            go_simp
            try with_reducible rfl
          try simp only [Act.put, List.setIfInBounds_toArray, List.set_cons_zero, List.set_cons_succ]
          refine wpAnyH_take (i := 8) (oi := { dst := some 107, op := _, type := _, pos := _, after := _, guard := _ }) (v := ?_) rfl (by kernel_rfl) (by kernel_rfl) (by kernel_rfl) (fun _ _ _ h => h) (Or.inl ⟨by rfl, ?_⟩) (by assumption) ?_
          rotate_left
          · intro w' hSw
            try dsimp only at hSw
            go_simp
            try with_reducible rfl
          try simp only [Act.put, List.setIfInBounds_toArray, List.set_cons_zero, List.set_cons_succ]
          refine wpAnyH_take (i := 10) (oi := { dst := some 109, op := _, type := _, pos := _, after := _, guard := _ }) (v := ?_) rfl (by kernel_rfl) (by kernel_rfl) (by kernel_rfl) (fun _ _ _ h => h) (Or.inl ⟨by rfl, ?_⟩) (by assumption) ?_
          rotate_left
          · intro w' hSw
            try dsimp only at hSw
            go_simp
            try with_reducible rfl
          try simp only [Act.put, List.setIfInBounds_toArray, List.set_cons_zero, List.set_cons_succ]
          refine wpAnyH_take (i := 11) (oi := { dst := some 110, op := _, type := _, pos := _, after := _, guard := _ }) (v := ?_) rfl (by kernel_rfl) (by kernel_rfl) (by kernel_rfl) (fun _ _ _ h => h) (Or.inl ⟨by rfl, ?_⟩) (by assumption) ?_
          rotate_left
          · intro w' hSw
            try dsimp only at hSw
            go_simp
            try with_reducible rfl
          try simp only [Act.put, List.setIfInBounds_toArray, List.set_cons_zero, List.set_cons_succ]
          refine wpAnyH_take (i := 12) (oi := { dst := some 111, op := _, type := _, pos := _, after := _, guard := _ }) (v := ?_) rfl (by kernel_rfl) (by kernel_rfl) (by kernel_rfl) (fun _ _ _ h => h) (Or.inl ⟨by rfl, ?_⟩) (by assumption) ?_
          rotate_left
          · intro w' hSw
            try dsimp only at hSw
            go_simp
            try with_reducible rfl
          try simp only [Act.put, List.setIfInBounds_toArray, List.set_cons_zero, List.set_cons_succ]
          refine wpAnyH_ready (rs := [9]) (by kernel_rfl) (by simp) ?_
          refine AllReadyH.cons (o := { dst := some 108, op := _, type := _, pos := _, after := _, guard := _ }) rfl (fun K hK => ?_) (AllReadyH.nil)
          go_simp
          go_at_call 17
          refine (HNX.out _ HC2.out).mono ?_
          rintro e wa ⟨rfl, hca⟩
          try go_wp2_with fail
          have HCA := Lib.hid (HC2.out.trans (hca.mono HC2.out.size))
          clear hca
          refine hK.out _ _ (HXC.out _ HCA.out) (fun hHeld => ?_)
          clear hK K
          try simp only [Act.put, List.setIfInBounds_toArray, List.set_cons_zero, List.set_cons_succ]
          refine wpAnyH_ready (rs := [13]) (by kernel_rfl) (by simp) ?_
          refine AllReadyH.cons (o := { dst := some 112, op := _, type := _, pos := _, after := _, guard := _ }) rfl (fun K hK => ?_) (AllReadyH.nil)
          go_simp
          go_at_call 19
          refine (HHE.out _).mono ?_
          rintro e _ ⟨rfl, rfl⟩
          try go_wp2_with fail
          refine hK.out _ _ (HXC.out _ HCA.out) (fun hHeld => ?_)
          clear hK K
          try simp only [Act.put, List.setIfInBounds_toArray, List.set_cons_zero, List.set_cons_succ]
          refine wpAnyH_ready (rs := [14]) (by kernel_rfl) (by simp) ?_
          refine AllReadyH.cons (o := { dst := some 113, op := _, type := _, pos := _, after := _, guard := _ }) rfl (fun K hK => ?_) (AllReadyH.nil)
          go_simp
          go_at_call 18
          refine (HRN.out _ HCA.out).mono ?_
          rintro e wb ⟨rfl, hcb⟩
          try go_wp2_with fail
          have HCB := Lib.hid (HCA.out.trans (hcb.mono HCA.out.size))
          clear hcb
          refine hK.out _ _ (HXC.out _ HCB.out) (fun hHeld => ?_)
          clear hK K
          try simp only [Act.put, List.setIfInBounds_toArray, List.set_cons_zero, List.set_cons_succ]
          refine wpAnyH_take (i := 15) (oi := { dst := some 114, op := _, type := _, pos := _, after := _, guard := _ }) (v := ?_) rfl (by kernel_rfl) (by kernel_rfl) (by kernel_rfl) (fun _ _ _ h => h) (Or.inl ⟨by rfl, ?_⟩) (by assumption) ?_
          rotate_left
          · intro w' hSw
            try dsimp only at hSw
            go_simp
            try with_reducible rfl
          try simp only [Act.put, List.setIfInBounds_toArray, List.set_cons_zero, List.set_cons_succ]
          refine wpAnyH_take (i := 16) (oi := { dst := some 115, op := _, type := _, pos := _, after := _, guard := _ }) (v := ?_) rfl (by kernel_rfl) (by kernel_rfl) (by kernel_rfl) (fun _ _ _ h => h) (Or.inl ⟨by rfl, ?_⟩) (by assumption) ?_
          rotate_left
          · intro w' hSw
            try dsimp only at hSw
            go_simp
            try with_reducible rfl
          try simp only [Act.put, List.setIfInBounds_toArray, List.set_cons_zero, List.set_cons_succ]
          refine wpAnyH_done (by kernel_rfl) ?_ _
          clear HNX HHE HRN HXC HROW
          go_wp2_with fail
          go_roundw
          case rel => exact ⟨k + 1, v2, F5, A2, c2, by omega, by go_num, HS9.out.below HCB.out, HOK2, HFL2, HB9.out.trans (HCB.out.mono HB9.out.size), HKX9.out.below HKX9.out.lt HCB.out, HD9.out.below HCB.out, HN5⟩
          case measure => simp [intOf]; omega
    · obtain rfl : k = n := by omega
      go_wp2
      go_ret
      exact ⟨rfl, hb.out⟩
set_option maxHeartbeats 2000000 in
theorem walk_SpanPlays (w : World) (a : Int) (ha : (Lit.int .i64 a).wf = true) (A : Option Addr) (n cap : Nat) (K : Nat → Int) (RA : Nat → Option Addr) (RL RC : Nat → Nat) (R : Nat → List F) (h : OIn w A n cap K RA RL RC R) (m : Int) (hm : (Lit.int .i64 m).wf = true) :
    Calls Try.prog 3 #[.int .i64 a, .slice A n cap, .int .i64 m] w fun e w' => e = .returned (.bool true) ∧ Below w.heap.size w w' := by
  by_cases hx : fewO n RL ∧ 5 ≤ a ∧ a ≤ 16777216
  · obtain ⟨hf, h5, h6⟩ := hx
    obtain ⟨S, rfl⟩ : ∃ S : Nat, a = (S : Int) := ⟨a.toNat, by omega⟩
    exact plays_main w S n cap A K RA RL RC R h hf (by omega) (by omega) m hm
  · have H := Lib.hid h
    obtain ⟨fv, hfv⟩ : ∃ fv, fv = decide (fewO n RL) := ⟨_, rfl⟩
    have HFV := Lib.hid hfv
    have HM := Lib.hid hx
    clear h hx hfv hm
    go_enter Try.func3, Try.ntmps3
    go_wp2_with fail
    refine (alive22_c _).mono ?_
    rintro e W1 ⟨rfl, hb1⟩
    have HB1 := Lib.hid hb1
    clear hb1
    go_wp2_with fail
    refine (few22_c (H.out.below HB1.out)).mono ?_
    rintro e W2 ⟨rfl, hb2⟩
    rw [← HFV.out]
    have HB2 := Lib.hid (HB1.out.trans (hb2.mono HB1.out.size))
    clear hb2
    cases fv
    · go_wp2
      go_ret
      exact ⟨rfl, HB2.out⟩
    · have hfw : fewO n RL := of_decide_eq_true HFV.out.symm
      have ho : ¬ (5 ≤ a ∧ a ≤ 16777216) := fun h => HM.out ⟨hfw, h.1, h.2⟩
      clear hfw
      have HO := Lib.hid ho
      clear ho
      go_wp2_with fail
      refine (New_c a ha W2).mono ?_
      rintro e W3 (⟨hno, rfl, hb3⟩ | ⟨S', p, rfl, h5, h6, rfl, hb3, hs3⟩)
      · have HB3 := Lib.hid (HB2.out.trans (hb3.mono HB2.out.size))
        have e1 : chkS a = 1 := by unfold chkS at hno ⊢; split <;> simp_all
        rw [e1]
        clear hb3 hno e1 HM
        by_cases h5 : a < 5
        · go_wp2
          go_ret
          exact ⟨rfl, HB3.out⟩
        · have h6 : (16777216 : Int) < a := by have := HO.out; omega
          go_wp2
          go_ret
          exact ⟨rfl, HB3.out⟩
      · exact absurd ⟨by omega, by omega⟩ HO.out
end Go.Proofs.Ytkijagodedmipaa
