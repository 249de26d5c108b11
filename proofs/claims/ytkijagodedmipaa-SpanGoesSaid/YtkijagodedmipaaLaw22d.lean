/-
  LAW 22: SpanGoes: a writer made of rows, a clone, and the one they were made of go each its own way. No conditions.
-/
import Derived.Test.YtkijagodedmipaaSpp
import Derived.Test.YtkijagodedmipaaLaw22c
namespace Go.Proofs.Ytkijagodedmipaa
open Go.RowKit
set_option maxRecDepth 100000
set_option linter.unusedVariables false

theorem min_one {W : World} {g : Nat} {A : Option Addr} {c : Nat} {l : List F} {L : Nat} (hL : l.length = L) (hg : g < W.heap.size) (hz : W.cell? ⟨g, 0, none⟩ = some (.slice A L c)) (hr : RowIn W A L c l) : MInR W (some ⟨g, 0, none⟩) 1 1 (fun _ => A) (fun _ => c) (fun _ => l) := by
  subst hL
  exact ⟨Nat.le_refl _, by unfold maxLen; decide, fun _ => ⟨g, 0, rfl, hg, fun r hr => by simpa [show r = 0 by omega] using hz⟩, fun r _ => hr⟩
theorem min_nil (W : World) : MInR W none 0 0 (fun _ => none) (fun _ => 0) (fun _ => []) := ⟨Nat.le_refl _, Nat.zero_le _, fun h => absurd h (by omega), fun r hr => absurd hr (by omega)⟩
theorem far_of {w W : World} {base p S : Nat} {v : Vs} {Fp : Nat → Prop} {B : Option Addr} {m c : Nat} {l : List F} (hs : Spw W base p S v Fp) (hb : w.heap.size ≤ base) (hr : RowIn w B m c l) : 0 < m → ∀ x o, B = some ⟨x, o, none⟩ → ¬ Fp x := fun h0 x o e h => by
  obtain ⟨b9, o9, e9, hl9, _⟩ := hr.row.at_ h0
  rw [e] at e9
  injection e9 with e9
  injection e9 with e9 _ _
  have := (hs.sub x h).1
  omega
theorem disj_grow {W : World} {Fu Fu' Fv : Nat → Prop} (hd : ∀ k, Fu k → ¬ Fv k) (hu : ∀ k, k < W.heap.size → Fu' k → Fu k) (hv : ∀ k, Fv k → k < W.heap.size) : ∀ k, Fu' k → ¬ Fv k := fun k h1 h2 => hd k (hu k (hv k h2) h1) h2
theorem made22 (n : Nat) : (madeCells (Value.int .u8 0).cells (n * 1)).toList = cs (List.replicate n 0) := by
  have e0 : madeCells (Value.int .u8 0).cells (n * 1) = madeCells #[.int .u8 0] n := by rw [Nat.mul_one]; rfl
  rw [e0, toList_madeCells_one]
  unfold cs
  rw [List.map_replicate]
  rfl
set_option maxHeartbeats 8000000 in
theorem goes_main (w : World) (S n cap : Nat) (A : Option Addr) (K : Nat → Int) (RA : Nat → Option Addr) (RL RC : Nat → Nat) (R : Nat → List F) (h : OIn w A n cap K RA RL RC R) (hf : fewO n RL)
    (n1 cap1 : Nat) (A1 : Option Addr) (K1 : Nat → Int) (RA1 : Nat → Option Addr) (RL1 RC1 : Nat → Nat) (R1 : Nat → List F) (h1 : OIn w A1 n1 cap1 K1 RA1 RL1 RC1 R1) (hf1 : fewO n1 RL1) (hS5 : 5 ≤ S) (hS6 : S ≤ 16777216) :
    Calls Try.prog 5 #[.int .i64 S, .slice A n cap, .slice A1 n1 cap1] w fun e w' => e = .returned (.bool true) ∧ Below w.heap.size w w' := by
  obtain ⟨i0, hi, hz0, hz1, hz2⟩ := info_parts info_u8
  have H := Lib.hid h
  have H1 := Lib.hid h1
  have HD : Hid (decide (fewO n RL) = true) := decide_eq_true hf
  have HD1 : Hid (decide (fewO n1 RL1) = true) := decide_eq_true hf1
  have HF := Lib.hid hf
  have HF1 := Lib.hid hf1
  have hn := H.out.nmax
  have hn1 := H1.out.nmax
  clear h hf h1 hf1
  go_enter Try.func5, Try.ntmps5
  go_wp2_with fail
  refine (alive22_c _).mono ?_
  rintro e W1 ⟨rfl, hb1⟩
  have HB1 := Lib.hid hb1
  clear hb1
  go_wp2_with fail
  refine (New_c S (by simp [Lit.wf, IntKind.min, IntKind.max, IntKind.bits, IntKind.signed]; omega) W1).mono ?_
  rintro e W2 (⟨hno, _, _⟩ | ⟨S', p, hS, _, _, rfl, hb2, hs2⟩)
  case inl => exact absurd (if_neg (by omega)) hno
  obtain rfl : S' = S := by omega
  have HB2 := Lib.hid (HB1.out.trans (hb2.mono HB1.out.size))
  have HS2 := Lib.hid hs2
  have HBS : Hid (w.heap.size ≤ W1.heap.size) := HB1.out.size
  clear hb2 hs2 hS HB1
  generalize Fgrow (fun _ => False) W1.heap.size W2.heap.size = F2 at *
  generalize W1.heap.size = base at *
  go_wp2_with fail
  refine (few22_c (H.out.below HB2.out)).mono ?_
  rintro e W3 ⟨rfl, hb3⟩
  rw [HD.out]
  have HB3 := Lib.hid (HB2.out.trans (hb3.mono HB2.out.size))
  have HS3 := Lib.hid (HS2.out.below hb3)
  clear hb3 HS2 HB2
  go_wp2_with fail
  refine (few22_c (H1.out.below HB3.out)).mono ?_
  rintro e W4 ⟨rfl, hb4⟩
  rw [HD1.out]
  have HB4 := Lib.hid (HB3.out.trans (hb4.mono HB3.out.size))
  have HS4 := Lib.hid (HS3.out.below hb4)
  clear hb4 HS3 HB3
  go_wp2_with fail
  go_loopw [50] (fun iv wr => ∃ (k : Nat) (v : Vs) (Fp : Nat → Prop), k ≤ n ∧ iv = .int .i64 k ∧ Hid (Spw wr base p S' v Fp) ∧ Hid (VOk S' v) ∧ Hid (v.flat.length ≤ 4 + 60 * k) ∧ Hid (Below w.heap.size w wr)) (fun iv _ => n - (intOf iv).toNat)
  case atStart => exact ⟨0, v0, F2, by omega, rfl, HS4, v0_ok hS5, (by show Hid (_ ≤ _); unfold Hid; decide), HB4⟩
  case round =>
    clear HS4 HB4
    obtain ⟨k, v, Fp, hk, rfl, hSp, hOk, hFl, hb⟩ := hrel
    by_cases hlt : k < n
    · have hkn : (k : Int) < n := by omega
      have hO := H.out.below hb.out
      obtain ⟨b1, o1, rfl, _, q0, q1⟩ := hO.at_ hlt
      have hrow := hO.row k hlt
      have hlk := HF.out.2 k hlt
      have hn20 := HF.out.1
      have hcnt := hOk.out.count
      have hfl := hFl.out
      have hP : v.P.length < 1300 := by omega
      have hlenR : (R k).length = RL k := H.out.len hlt
      have hba := (Below.refl wr.heap.size wr).alloc (Nat.le_refl _) (.cells #[.int .i64 (K k), .slice (RA k) (RL k) (RC k)] 35)
      have HS5 := Lib.hid (hSp.out.below hba)
      have HB5 := Lib.hid (hb.out.trans (hba.mono hb.out.size))
      have HR5 := Lib.hid (hrow.below hba)
      have HK8 := Lib.hid (Blk.new wr 35 #[.int .i64 (K k), .slice (RA k) (RL k) (RC k)])
      have HOK := Lib.hid hOk.out
      have HLR := Lib.hid hlenR
      have HFAR := Lib.hid (far_of hSp.out HBS.out (H.out.row k hlt))
      have z80 : (wr.alloc (.cells #[.int .i64 (K k), .slice (RA k) (RL k) (RC k)] 35)).cell? ⟨wr.heap.size, 0, none⟩ = some (.int .i64 (K k)) := HK8.out.cell 0
      have z81 : (wr.alloc (.cells #[.int .i64 (K k), .slice (RA k) (RL k) (RC k)] 35)).cell? ⟨wr.heap.size, 1, none⟩ = some (.slice (RA k) (RL k) (RC k)) := HK8.out.cell 1
      clear hba hO hrow hOk hSp hcnt hb hlenR HK8
      by_cases hK0 : K k = 0
      · have k0 : ((K k : Int) == 0) = true := by rw [hK0]; rfl
        clear hK0
        obtain ⟨v2, d3, o3, k3, er⟩ : ∃ v2 d o k3, recF S' v (R k) = (v2, d, o, k3) := ⟨_, _, _, _, rfl⟩
        have hok2 := HOK.out.rec_ (R k)
        have hfl2 : (recF S' v (R k)).1.flat.length ≤ 4 + 60 * (k + 1) := rec_flat_le (R k) hfl (by rw [HLR.out]; exact hlk)
        rw [er] at hok2 hfl2
        have HOK2 : Hid (VOk S' v2) := hok2
        have HFL2 : Hid (v2.flat.length ≤ 4 + 60 * (k + 1)) := hfl2
        clear hok2 hfl2
        have HRC := Lib.hid (Record_v (c := RC k) HS5.out HOK.out hS6 (by omega) HR5.out.row HFAR.out er)
        go_wp2_with fail
        refine HRC.out.mono ?_
        rintro e W6 ⟨F6, rfl, hk6, hs6, hf6⟩
        have HB6 := Lib.hid (HB5.out.trans (HS5.out.belowW hk6 HBS.out HB5.out.size))
        clear hk6 hf6 HRC
        go_wp2_with fail
        go_roundw
        case rel => exact ⟨k + 1, v2, F6, by omega, by go_num, hs6, HOK2, HFL2, HB6⟩
        case measure => simp [intOf]; omega
      
      · have k0 : ((K k : Int) == 0) = false := by rw [beq_eq_false_iff_ne]; exact hK0
        by_cases hK1 : K k = 1
        · have k1 : ((K k : Int) == 1) = true := by rw [hK1]; rfl
          clear hK0 hK1
          obtain ⟨v2, d3, o3, k3, er⟩ : ∃ v2 d o k3, recF S' v (R k) = (v2, d, o, k3) := ⟨_, _, _, _, rfl⟩
          have hok2 := HOK.out.rec_ (R k)
          have hfl2 : (recF S' v (R k)).1.flat.length ≤ 4 + 60 * (k + 1) := rec_flat_le (R k) hfl (by rw [HLR.out]; exact hlk)
          rw [er] at hok2 hfl2
          have HOK2 : Hid (VOk S' v2) := hok2
          have HFL2 : Hid (v2.flat.length ≤ 4 + 60 * (k + 1)) := hfl2
          clear hok2 hfl2
          have HRC := Lib.hid (Record_v (c := RC k) HS5.out HOK.out hS6 (by omega) HR5.out.row HFAR.out er)
          go_wp2_with fail
          refine HRC.out.mono ?_
          rintro e W6 ⟨F6, rfl, hk6, hs6, hf6⟩
          have HB6 := Lib.hid (HB5.out.trans (HS5.out.belowW hk6 HBS.out HB5.out.size))
          clear hk6 hf6 HRC
          go_wp2_with fail
          go_roundw
          case rel => exact ⟨k + 1, v2, F6, by omega, by go_num, hs6, HOK2, HFL2, HB6⟩
          case measure => simp [intOf]; omega
      
        · have k1 : ((K k : Int) == 1) = false := by rw [beq_eq_false_iff_ne]; exact hK1
          clear hK0 hK1
          obtain ⟨v2, ev⟩ : ∃ v2, vdata S' v (R k) = v2 := ⟨_, rfl⟩
          obtain ⟨d3, o3, ea⟩ : ∃ d o, vat S' v 1 = (d, o) := ⟨_, _, rfl⟩
          have hok2 := VOk.data (show 1 ≤ S' by omega) (R k) HOK.out
          have hfl2 : (vdata S' v (R k)).flat.length ≤ 4 + 60 * (k + 1) := vdata_flat_le (R k) hfl (by rw [HLR.out]; exact hlk)
          rw [ev] at hok2 hfl2
          have HOK2 : Hid (VOk S' v2) := hok2
          have HFL2 : Hid (v2.flat.length ≤ 4 + 60 * (k + 1)) := hfl2
          clear hok2 hfl2
          have HRC := Lib.hid (Data_v (c := RC k) HS5.out HOK.out hS6 (by omega) HR5.out HFAR.out ea ev)
          go_wp2_with fail
          refine HRC.out.mono ?_
          rintro e W6 ⟨F6, rfl, hk6, hs6, hf6⟩
          have HB6 := Lib.hid (HB5.out.trans (HS5.out.belowW hk6 HBS.out HB5.out.size))
          clear hk6 hf6 HRC
          go_wp2_with fail
          go_roundw
          case rel => exact ⟨k + 1, v2, F6, by omega, by go_num, hs6, HOK2, HFL2, HB6⟩
          case measure => simp [intOf]; omega
    · obtain rfl : k = n := by omega
      have hfl := hFl.out
      have hn20 := HF.out.1
      have hcnt := hOk.out.count
      have hP : v.P.length < 1300 := by omega
      clear hlt hk
      go_wp2_with fail
      refine (RowW_c hSp.out hOk.out hS6 (by omega)).mono ?_
      rintro e W8 ⟨gR, cR, RAr, RCr, rfl, hA8, hb8⟩
      have HA8 := Lib.hid hA8
      have HB8 := Lib.hid (hb.out.trans (hb8.mono hb.out.size))
      have HS8 := Lib.hid (hSp.out.below hb8)
      clear hA8 hb8 hSp hb
      go_wp2_with fail
      refine (Go_yes (by omega) hS6 HA8.out.min (by omega) (by omega) (fun r hr => hOk.out.row hr)).mono ?_
      rintro e W9 ⟨qu, gu, cu, RAu, RCu, rfl, hb9, hsu⟩
      have hsu2 : Spw W9 W8.heap.size qu S' v (Fgrow (fun _ => False) W8.heap.size W9.heap.size) := ⟨gu, cu, RAu, RCu, hsu⟩
      have HSU9 := Lib.hid hsu2
      have HB9 := Lib.hid hb9
      clear hsu hsu2 hb9
      go_wp2_with fail
      refine (CloneW_c (HS8.out.below HB9.out) hOk.out hS6 (by omega)).mono ?_
      rintro e W10 ⟨qv, rfl, hb10, hsv⟩
      have HSU := Lib.hid (HSU9.out.below hb10)
      have HSV := Lib.hid hsv
      have HBX := Lib.hid (HB9.out.trans (hb10.mono HB9.out.size))
      have HDJ : Hid (∀ k, Fgrow (fun _ => False) W8.heap.size W9.heap.size k → ¬ Fgrow (fun _ => False) W9.heap.size W10.heap.size k) := fun k a b => by
        rcases a with a | a
        · exact a
        · rcases b with b | b
          · exact b
          · omega
      have HBUV : Hid (w.heap.size ≤ W8.heap.size ∧ W8.heap.size ≤ W9.heap.size) := ⟨HB8.out.size, HB9.out.size⟩
      clear hb10 hsv HSU9 HB9
      generalize Fgrow (fun _ => False) W8.heap.size W9.heap.size = Fu0 at *
      generalize Fgrow (fun _ => False) W9.heap.size W10.heap.size = Fv0 at *
      generalize W9.heap.size = bv at *
      obtain ⟨W5, hW5⟩ : ∃ W5, W5 = wr := ⟨_, rfl⟩
      subst hW5
      go_wp2_with fail
      go_loopw [93] (fun iv wr => ∃ (k : Nat) (v2 : Vs) (Fu Fv : Nat → Prop), k ≤ n1 ∧ iv = .int .i64 k ∧ Hid (Spw wr W8.heap.size qu S' v2 Fu) ∧ Hid (Spw wr bv qv S' v2 Fv) ∧ Hid (∀ k, Fu k → ¬ Fv k) ∧ Hid (VOk S' v2) ∧ Hid (v2.flat.length ≤ 1300 + 60 * k) ∧ Hid (Below W8.heap.size W8 wr)) (fun iv _ => n1 - (intOf iv).toNat)
      case atStart => exact ⟨0, v, Fu0, Fv0, by omega, rfl, HSU, HSV, HDJ, hOk, by unfold Hid; omega, HBX⟩
      case round =>
        clear HSU HSV HDJ HBX
        obtain ⟨k, v2, Fu, Fv, hk, rfl, hU, hV, hDj, hOk2, hFl2, hbx⟩ := hrel
        by_cases hlt : k < n1
        · have hkn : (k : Int) < n1 := by omega
          have hbw := HB8.out.trans (hbx.out.mono HB8.out.size)
          have hO := H1.out.below hbw
          obtain ⟨b1, o1, rfl, _, q0, q1⟩ := hO.at_ hlt
          have hrow := hO.row k hlt
          have hlk := HF1.out.2 k hlt
          have hn20b := HF1.out.1
          have hcnt := hOk2.out.count
          have hfl2 := hFl2.out
          have hP2 : v2.P.length ≤ 1000000 := by omega
          have hlenR : (R1 k).length = RL1 k := H1.out.len hlt
          have hba := (Below.refl wr.heap.size wr).alloc (Nat.le_refl _) (.cells #[.int .i64 (K1 k), .slice (RA1 k) (RL1 k) (RC1 k)] 35)
          have HU5 := Lib.hid (hU.out.below hba)
          have HV5 := Lib.hid (hV.out.below hba)
          have HX5 := Lib.hid (hbx.out.trans (hba.mono hbx.out.size))
          have HR5 := Lib.hid (hrow.below hba)
          have HK8 := Lib.hid (Blk.new wr 35 #[.int .i64 (K1 k), .slice (RA1 k) (RL1 k) (RC1 k)])
          have HOK := Lib.hid hOk2.out
          have HLR := Lib.hid hlenR
          have HFU := Lib.hid (far_of hU.out HBUV.out.1 (H1.out.row k hlt))
          have HFV := Lib.hid (far_of hV.out (Nat.le_trans HBUV.out.1 HBUV.out.2) (H1.out.row k hlt))
          have HNU : Hid (¬ Fu wr.heap.size) := fun h => by have := (hU.out.sub _ h).2; omega
          have HNV : Hid (¬ Fv wr.heap.size) := fun h => by have := (hV.out.sub _ h).2; omega
          have z80 : (wr.alloc (.cells #[.int .i64 (K1 k), .slice (RA1 k) (RL1 k) (RC1 k)] 35)).cell? ⟨wr.heap.size, 0, none⟩ = some (.int .i64 (K1 k)) := HK8.out.cell 0
          have z81 : (wr.alloc (.cells #[.int .i64 (K1 k), .slice (RA1 k) (RL1 k) (RC1 k)] 35)).cell? ⟨wr.heap.size, 1, none⟩ = some (.slice (RA1 k) (RL1 k) (RC1 k)) := HK8.out.cell 1
          clear hba hO hrow hOk2 hU hV hcnt hbx hbw hlenR
          by_cases hK0 : K1 k = 0
          · have k0 : ((K1 k : Int) == 0) = true := by rw [hK0]; rfl
            clear hK0
            obtain ⟨v3, d3, o3, k3, er⟩ : ∃ v2' d o k3, recF S' v2 (R1 k) = (v2', d, o, k3) := ⟨_, _, _, _, rfl⟩
            have hok3 := HOK.out.rec_ (R1 k)
            have hfl3 : (recF S' v2 (R1 k)).1.flat.length ≤ 1300 + 60 * (k + 1) := rec_flat_le (R1 k) hfl2 (by rw [HLR.out]; exact hlk)
            rw [er] at hok3 hfl3
            have HOK3 : Hid (VOk S' v3) := hok3
            have HFL3 : Hid (v3.flat.length ≤ 1300 + 60 * (k + 1)) := hfl3
            clear hok3 hfl3
            have HRC := Lib.hid (Record_v (c := RC1 k) HU5.out HOK.out hS6 hP2 HR5.out.row HFU.out er)
            go_wp2_with fail
            refine HRC.out.mono ?_
            rintro e W6 ⟨F6, rfl, hk6, hs6, hf6⟩
            have hba := (Below.refl W6.heap.size W6).alloc (Nat.le_refl _) (.cells #[.int .i64 (d3 : Int), .int .i64 (o3 : Int)] 37)
            have HU7 := Lib.hid (hs6.below hba)
            have hv6 := HV5.out.keepF hk6 (fun k a b => hDj.out k b a)
            have HV7 := Lib.hid (hv6.below hba)
            have hdj6 : ∀ k, F6 k → ¬ Fv k := disj_grow hDj.out hf6 (fun k h => (HV5.out.sub k h).2)
            have HDJ7 := Lib.hid hdj6
            have hx6 := HX5.out.trans (HU5.out.belowW hk6 (Nat.le_refl _) HX5.out.size)
            have HX7 := Lib.hid (hx6.trans (hba.mono hx6.size))
            have HR7 := Lib.hid ((HR5.out.keepF hk6 HFU.out).below hba)
            have hk86 := hk6.blk HK8.out HNU.out
            have HK87 := Lib.hid (hk86.below hk86.lt hba)
            have HK17 := Lib.hid (Blk.new W6 37 #[.int .i64 (d3 : Int), .int .i64 (o3 : Int)])
            have HN17 : Hid (¬ Fv W6.heap.size) := fun h => by have := (hv6.sub _ h).2; omega
            have z87 : (W6.alloc (.cells #[.int .i64 (d3 : Int), .int .i64 (o3 : Int)] 37)).cell? ⟨wr.heap.size, 1, none⟩ = some (.slice (RA1 k) (RL1 k) (RC1 k)) := HK87.out.cell 1
            have HRV := Lib.hid (Record_v (c := RC1 k) HV7.out HOK.out hS6 hP2 HR7.out.row HFV.out er)
            clear hk6 hs6 hf6 hba hv6 hdj6 hx6 hk86 HRC HU5 HV5 HX5 HR5 HK8 z80 z81 HR7 HK87 hDj
            go_wp2_with fail
            refine HRV.out.mono ?_
            rintro e W8a ⟨F8, rfl, hk8, hs8, hf8⟩
            have hba := (Below.refl W8a.heap.size W8a).alloc (Nat.le_refl _) (.cells #[.int .i64 (d3 : Int), .int .i64 (o3 : Int)] 37)
            have HV9 := Lib.hid (hs8.below hba)
            have hu8 := HU7.out.keepF hk8 (fun k a b => HDJ7.out k a b)
            have HU9 := Lib.hid (hu8.below hba)
            have HDJ9 := Lib.hid (fun k (a : F6 k) (b : F8 k) => disj_grow (fun k a b => HDJ7.out k b a) hf8 (fun k h => (HU7.out.sub k h).2) k b a)
            have hx8 := HX7.out.trans (HV7.out.belowW hk8 HBUV.out.2 HX7.out.size)
            have HX9 := Lib.hid (hx8.trans (hba.mono hx8.size))
            have hk178 := hk8.blk HK17.out HN17.out
            have hk179 := hk178.below hk178.lt hba
            have hk199 := Blk.new W8a 37 #[.int .i64 (d3 : Int), .int .i64 (o3 : Int)]
            have tl17 := ld_pl hk179 rfl
            have tl19 := ld_pl hk199 rfl
            clear hk8 hs8 hf8 hba hu8 hx8 hk178 hk179 hk199 HRV HK17 HN17 z87 HU7 HV7 HX7 HDJ7
            go_wp2_with (first
              | (with_reducible refine wpList_load_var W6.heap.size _ rfl tl17 ?_)
              | (with_reducible refine wpList_load_var W8a.heap.size _ rfl tl19 ?_))
            go_roundw
            case rel => exact ⟨k + 1, v3, F6, F8, by omega, by go_num, HU9, HV9, HDJ9, HOK3, HFL3, HX9⟩
            case measure => simp [intOf]; omega
          
          · have k0 : ((K1 k : Int) == 0) = false := by rw [beq_eq_false_iff_ne]; exact hK0
            by_cases hK1 : K1 k = 1
            · have k1 : ((K1 k : Int) == 1) = true := by rw [hK1]; rfl
              clear hK0 hK1
              obtain ⟨v3, d3, o3, k3, er⟩ : ∃ v2' d o k3, recF S' v2 (R1 k) = (v2', d, o, k3) := ⟨_, _, _, _, rfl⟩
              have hok3 := HOK.out.rec_ (R1 k)
              have hfl3 : (recF S' v2 (R1 k)).1.flat.length ≤ 1300 + 60 * (k + 1) := rec_flat_le (R1 k) hfl2 (by rw [HLR.out]; exact hlk)
              rw [er] at hok3 hfl3
              have HOK3 : Hid (VOk S' v3) := hok3
              have HFL3 : Hid (v3.flat.length ≤ 1300 + 60 * (k + 1)) := hfl3
              clear hok3 hfl3
              have HRC := Lib.hid (Record_v (c := RC1 k) HU5.out HOK.out hS6 hP2 HR5.out.row HFU.out er)
              go_wp2_with fail
              refine HRC.out.mono ?_
              rintro e W6 ⟨F6, rfl, hk6, hs6, hf6⟩
              have hba := (Below.refl W6.heap.size W6).alloc (Nat.le_refl _) (.cells #[.int .i64 (d3 : Int), .int .i64 (o3 : Int)] 37)
              have HU7 := Lib.hid (hs6.below hba)
              have hv6 := HV5.out.keepF hk6 (fun k a b => hDj.out k b a)
              have HV7 := Lib.hid (hv6.below hba)
              have hdj6 : ∀ k, F6 k → ¬ Fv k := disj_grow hDj.out hf6 (fun k h => (HV5.out.sub k h).2)
              have HDJ7 := Lib.hid hdj6
              have hx6 := HX5.out.trans (HU5.out.belowW hk6 (Nat.le_refl _) HX5.out.size)
              have HX7 := Lib.hid (hx6.trans (hba.mono hx6.size))
              have HR7 := Lib.hid ((HR5.out.keepF hk6 HFU.out).below hba)
              have hk86 := hk6.blk HK8.out HNU.out
              have HK87 := Lib.hid (hk86.below hk86.lt hba)
              have HK17 := Lib.hid (Blk.new W6 37 #[.int .i64 (d3 : Int), .int .i64 (o3 : Int)])
              have HN17 : Hid (¬ Fv W6.heap.size) := fun h => by have := (hv6.sub _ h).2; omega
              have z87 : (W6.alloc (.cells #[.int .i64 (d3 : Int), .int .i64 (o3 : Int)] 37)).cell? ⟨wr.heap.size, 1, none⟩ = some (.slice (RA1 k) (RL1 k) (RC1 k)) := HK87.out.cell 1
              have HRV := Lib.hid (Record_v (c := RC1 k) HV7.out HOK.out hS6 hP2 HR7.out.row HFV.out er)
              clear hk6 hs6 hf6 hba hv6 hdj6 hx6 hk86 HRC HU5 HV5 HX5 HR5 HK8 z80 z81 HR7 HK87 hDj
              go_wp2_with fail
              refine HRV.out.mono ?_
              rintro e W8a ⟨F8, rfl, hk8, hs8, hf8⟩
              have hba := (Below.refl W8a.heap.size W8a).alloc (Nat.le_refl _) (.cells #[.int .i64 (d3 : Int), .int .i64 (o3 : Int)] 37)
              have HV9 := Lib.hid (hs8.below hba)
              have hu8 := HU7.out.keepF hk8 (fun k a b => HDJ7.out k a b)
              have HU9 := Lib.hid (hu8.below hba)
              have HDJ9 := Lib.hid (fun k (a : F6 k) (b : F8 k) => disj_grow (fun k a b => HDJ7.out k b a) hf8 (fun k h => (HU7.out.sub k h).2) k b a)
              have hx8 := HX7.out.trans (HV7.out.belowW hk8 HBUV.out.2 HX7.out.size)
              have HX9 := Lib.hid (hx8.trans (hba.mono hx8.size))
              have hk178 := hk8.blk HK17.out HN17.out
              have hk179 := hk178.below hk178.lt hba
              have hk199 := Blk.new W8a 37 #[.int .i64 (d3 : Int), .int .i64 (o3 : Int)]
              have tl17 := ld_pl hk179 rfl
              have tl19 := ld_pl hk199 rfl
              clear hk8 hs8 hf8 hba hu8 hx8 hk178 hk179 hk199 HRV HK17 HN17 z87 HU7 HV7 HX7 HDJ7
              go_wp2_with (first
                | (with_reducible refine wpList_load_var W6.heap.size _ rfl tl17 ?_)
                | (with_reducible refine wpList_load_var W8a.heap.size _ rfl tl19 ?_))
              go_roundw
              case rel => exact ⟨k + 1, v3, F6, F8, by omega, by go_num, HU9, HV9, HDJ9, HOK3, HFL3, HX9⟩
              case measure => simp [intOf]; omega
          
            · have k1 : ((K1 k : Int) == 1) = false := by rw [beq_eq_false_iff_ne]; exact hK1
              clear hK0 hK1
              obtain ⟨v3, ev⟩ : ∃ v3, vdata S' v2 (R1 k) = v3 := ⟨_, rfl⟩
              obtain ⟨d3, o3, ea⟩ : ∃ d o, vat S' v2 1 = (d, o) := ⟨_, _, rfl⟩
              have hok3 := VOk.data (show 1 ≤ S' by omega) (R1 k) HOK.out
              have hfl3 : (vdata S' v2 (R1 k)).flat.length ≤ 1300 + 60 * (k + 1) := vdata_flat_le (R1 k) hfl2 (by rw [HLR.out]; exact hlk)
              rw [ev] at hok3 hfl3
              have HOK3 : Hid (VOk S' v3) := hok3
              have HFL3 : Hid (v3.flat.length ≤ 1300 + 60 * (k + 1)) := hfl3
              have hmb : v2.flat.length + RL1 k ≤ 1000000 := by omega
              clear hok3 hfl3
              go_wp2_with fail
              obtain ⟨W5b, hW5b⟩ : ∃ W5b, W5b = wr.alloc (.cells #[.int .i64 (K1 k), .slice (RA1 k) (RL1 k) (RC1 k)] 35) := ⟨_, rfl⟩
              rw [← hW5b] at HU5 HV5 HX5 HR5 HK8 z81 ⊢
              clear hW5b z80
              have HRC := Lib.hid (Data_v (w := W5b.drew) (c := RC1 k) (HU5.out.below ((Below.refl W5b.heap.size W5b).drew)) HOK.out hS6 hmb (HR5.out.below ((Below.refl W5b.heap.size W5b).drew)) HFU.out ea ev)
              generalize hq16 : wr.heap.size = q16 at *
              refine wp_region_held_drew (S := fun W' => W'.cell? ⟨q16, 1, none⟩ = some (.slice (RA1 k) (RL1 k) (RC1 k))) (by kernel_rfl) ?_ (fun hHeld => ?_)
              · go_keep
              refine wpAnyH_take (i := 0) (oi := { dst := some 127, op := _, type := _, pos := _, after := _, guard := _ }) (v := ?_) rfl (by kernel_rfl) (by kernel_rfl) (by kernel_rfl) (fun _ _ _ h => h) (Or.inl ⟨by rfl, ?_⟩) (by assumption) ?_
              rotate_left
              · intro w' hSw
                try dsimp only at hSw
                go_simp
                try with_reducible rfl
              try simp only [Act.put, List.setIfInBounds_toArray, List.set_cons_zero, List.set_cons_succ]
              refine wpAnyH_take (i := 1) (oi := { dst := some 128, op := _, type := _, pos := _, after := _, guard := _ }) (v := ?_) rfl (by kernel_rfl) (by kernel_rfl) (by kernel_rfl) (fun _ _ _ h => h) (Or.inl ⟨by rfl, ?_⟩) (by assumption) ?_
              rotate_left
              · intro w' hSw
                try dsimp only at hSw
                go_simp
                try with_reducible rfl
              try simp only [Act.put, List.setIfInBounds_toArray, List.set_cons_zero, List.set_cons_succ]
              refine wpAnyH_take (i := 2) (oi := { dst := some 129, op := _, type := _, pos := _, after := _, guard := _ }) (v := ?_) rfl (by kernel_rfl) (by kernel_rfl) (by kernel_rfl) (fun _ _ _ h => h) (Or.inl ⟨by rfl, ?_⟩) (by assumption) ?_
              rotate_left
              · intro w' hSw
                try dsimp only at hSw
                go_simp
                try with_reducible rfl
              try simp only [Act.put, List.setIfInBounds_toArray, List.set_cons_zero, List.set_cons_succ]
              refine wpAnyH_take (i := 4) (oi := { dst := some 131, op := _, type := _, pos := _, after := _, guard := _ }) (v := ?_) rfl (by kernel_rfl) (by kernel_rfl) (by kernel_rfl) (fun _ _ _ h => h) (Or.inl ⟨by rfl, ?_⟩) (by assumption) ?_
              rotate_left
              · intro w' hSw
                try dsimp only at hSw
                go_simp
                try with_reducible rfl
              try simp only [Act.put, List.setIfInBounds_toArray, List.set_cons_zero, List.set_cons_succ]
              refine wpAnyH_take (i := 5) (oi := { dst := some 132, op := _, type := _, pos := _, after := _, guard := _ }) (v := ?_) rfl (by kernel_rfl) (by kernel_rfl) (by kernel_rfl) (fun _ _ _ h => h) (Or.inl ⟨by rfl, ?_⟩) (by assumption) ?_
              rotate_left
              · intro w' hSw
                try dsimp only at hSw
                go_simp
                try with_reducible rfl
              try simp only [Act.put, List.setIfInBounds_toArray, List.set_cons_zero, List.set_cons_succ]
              refine wpAnyH_take (i := 6) (oi := { dst := some 133, op := _, type := _, pos := _, after := _, guard := _ }) (v := ?_) rfl (by kernel_rfl) (by kernel_rfl) (by kernel_rfl) (fun _ _ _ h => h) (Or.inl ⟨by rfl, ?_⟩) (by assumption) ?_
              rotate_left
              · intro w' hSw
                try dsimp only at hSw
                go_simp
                try with_reducible rfl
              try simp only [Act.put, List.setIfInBounds_toArray, List.set_cons_zero, List.set_cons_succ]
              refine wpAnyH_ready (rs := [3]) (by kernel_rfl) (by simp) ?_
              refine AllReadyH.cons (o := { dst := some 130, op := _, type := _, pos := _, after := _, guard := _ }) rfl (fun K hK => ?_) AllReadyH.nil
              go_simp
              go_at_call 13
              refine HRC.out.mono ?_
              rintro e W6 ⟨F6, rfl, hk6, hs6, hf6⟩
              try go_wp2_with fail
              have HU7 := Lib.hid hs6
              have hbd := (Below.refl W5b.heap.size W5b).drew
              have hv6 := (HV5.out.below hbd).keepF hk6 (fun k a b => hDj.out k b a)
              have HV7 := Lib.hid hv6
              have HDJ7 := Lib.hid (disj_grow hDj.out hf6 (fun k h => (HV5.out.sub k h).2))
              have hx5 := HX5.out.trans (hbd.mono HX5.out.size)
              have HX7 := Lib.hid (hx5.trans ((HU5.out.below hbd).belowW hk6 (Nat.le_refl _) hx5.size))
              have hk85 := HK8.out.below HK8.out.lt hbd
              have hk86 := hk6.blk hk85 HNU.out
              have HK87 := Lib.hid hk86
              have HRV := Lib.hid (Data_v (c := RC1 k) HV7.out HOK.out hS6 hmb ((HR5.out.below hbd).keepF hk6 HFU.out) HFV.out ea ev)
              clear hk6 hs6 hf6 hv6 hbd hx5 hk85 hk86 HRC
              refine hK.out _ _ ?_ (fun hHeld => ?_)
              · exact HK87.out.cell 1
              clear hK K
              try simp only [Act.put, List.setIfInBounds_toArray, List.set_cons_zero, List.set_cons_succ]
              refine wpAnyH_ready (rs := [7]) (by kernel_rfl) (by simp) ?_
              refine AllReadyH.cons (o := { dst := some 134, op := _, type := _, pos := _, after := _, guard := _ }) rfl (fun K hK => ?_) AllReadyH.nil
              go_simp
              go_at_call 13
              refine HRV.out.mono ?_
              rintro e W8a ⟨F8, rfl, hk8, hs8, hf8⟩
              try go_wp2_with fail
              have HV9 := Lib.hid hs8
              have HU9 := Lib.hid (HU7.out.keepF hk8 (fun k a b => HDJ7.out k a b))
              have HDJ9 := Lib.hid (fun k (a : F6 k) (b : F8 k) => disj_grow (fun k a b => HDJ7.out k b a) hf8 (fun k h => (HU7.out.sub k h).2) k b a)
              have HX9 := Lib.hid (HX7.out.trans (HV7.out.belowW hk8 HBUV.out.2 HX7.out.size))
              have HK89 := Lib.hid (hk8.blk HK87.out HNV.out)
              clear hk8 hs8 hf8 HRV
              refine hK.out _ _ ?_ (fun hHeld => ?_)
              · exact HK89.out.cell 1
              clear hK K
              try simp only [Act.put, List.setIfInBounds_toArray, List.set_cons_zero, List.set_cons_succ]
              refine wpAnyH_take (i := 8) (oi := { dst := some 135, op := _, type := _, pos := _, after := _, guard := _ }) (v := ?_) rfl (by kernel_rfl) (by kernel_rfl) (by kernel_rfl) (fun _ _ _ h => h) (Or.inl ⟨by rfl, ?_⟩) (by assumption) ?_
              rotate_left
              · intro w' hSw
                try dsimp only at hSw
                go_simp
                try with_reducible rfl
              try simp only [Act.put, List.setIfInBounds_toArray, List.set_cons_zero, List.set_cons_succ]
              refine wpAnyH_done (by kernel_rfl) ?_ _
              go_wp2_with fail
              go_roundw
              case rel => exact ⟨k + 1, v3, F6, F8, by omega, by go_num, HU9, HV9, HDJ9, HOK3, HFL3, HX9⟩
              case measure => simp [intOf]; omega
        · obtain rfl : k = n1 := by omega
          clear hlt hk
          have hfl2 := hFl2.out
          have hn20b := HF1.out.1
          have hcnt2 := hOk2.out.count
          have hP2 : v2.P.length < 1000000 := by omega
          have HU := Lib.hid hU.out
          have HV := Lib.hid hV.out
          have HX := Lib.hid hbx.out
          clear hU hV hbx hDj hfl2 hcnt2
          go_wp2_with fail
          refine (Go_form (by omega) hS6 (min_nil _) (.inl rfl)).mono ?_
          rintro e W11 ⟨rfl, hb11⟩
          have HX11 := Lib.hid (HX.out.trans (hb11.mono HX.out.size))
          have HU11 := Lib.hid (HU.out.below hb11)
          have HV11 := Lib.hid (HV.out.below hb11)
          clear hb11 HU HV HX
          go_wp2_with fail
          have hba := (Below.refl W11.heap.size W11).alloc (Nat.le_refl _) (.cells #[] 5)
          have hbb := (Below.refl (W11.alloc (.cells #[] 5)).heap.size _).alloc (Nat.le_refl _) (.cells #[.slice (some ⟨W11.heap.size, 0, none⟩) 0 0] 33)
          have hbc := hba.trans (hbb.mono hba.size)
          have hsz : (W11.alloc (.cells #[] 5)).heap.size = W11.heap.size + 1 := by simp
          have hkt := Blk.new (W11.alloc (.cells #[] 5)) 33 #[.slice (some ⟨W11.heap.size, 0, none⟩) 0 0]
          rw [hsz] at hkt
          have hE : (W11.alloc (.cells #[] 5)).ownsRow W11.heap.size 5 1 (.slice (some ⟨W11.heap.size, 0, none⟩) 0 0) 0 (cs []) := World.ownsRow_made W11 #[] 0 (Nat.le_refl _) (Nat.zero_le _) rfl
          have hM := min_one (l := []) (L := 0) rfl hkt.lt (hkt.cell 0) ((own_in hE).below hbb)
          have HX12 := Lib.hid (HX11.out.trans (hbc.mono HX11.out.size))
          have HU12 := Lib.hid (HU11.out.below hbc)
          have HV12 := Lib.hid (HV11.out.below hbc)
          refine (Go_form (by omega) hS6 hM (.inr (badB_yes (r := 0) (by decide) (.inl rfl)))).mono ?_
          rintro e W13 ⟨rfl, hb13⟩
          have HX13 := Lib.hid (HX12.out.trans (hb13.mono HX12.out.size))
          have HU13 := Lib.hid (HU12.out.below hb13)
          have HV13 := Lib.hid (HV12.out.below hb13)
          clear hba hbb hbc hsz hkt hE hM hb13 HX11 HU11 HV11 HX12 HU12 HV12
          go_wp2_with fail
          refine (Go_one (s := 4) rfl rfl _ _ _ _).mono ?_
          rintro e W14 ⟨rfl, hb14⟩
          have HX14 := Lib.hid (HX13.out.trans (hb14.mono HX13.out.size))
          have HU14 := Lib.hid (HU13.out.below hb14)
          have HV14 := Lib.hid (HV13.out.below hb14)
          clear hb14 HX13 HU13 HV13
          by_cases hk : S' ≤ 1000
          · have k1 : ¬ (1000 : Int) < S' := by omega
            obtain ⟨W15, hrun0, hown, hg⟩ := run_make_full (P := Try.prog) W14 W14.heap.size 33 5 i0 (.int .u8 0) 1 Try.underlying33 hi hz0 hz1 .i64 .i64 (S' + 1) (by rw [hz2]; omega) (by unfold maxLen; omega) (Nat.le_refl _)
            rw [made22] at hown
            have hrow := own_in hown
            have hb15 := (Below.refl W14.heap.size W14).grown hg (Nat.le_refl _) (fun x hx => by cases hx)
            have hbt := (Below.refl W15.heap.size W15).alloc (Nat.le_refl _) (.cells #[.slice (some ⟨W14.heap.size, 0, none⟩) (S' + 1) (S' + 1)] 33)
            have hb16 := hb15.trans (hbt.mono hb15.size)
            have hkt := Blk.new W15 33 #[.slice (some ⟨W14.heap.size, 0, none⟩) (S' + 1) (S' + 1)]
            have hM := min_one (List.length_replicate (n := (S' + 1)) (a := (0 : F))) hkt.lt (hkt.cell 0) (hrow.below hbt)
            have HX16 := Lib.hid (HX14.out.trans (hb16.mono HX14.out.size))
            have HU16 := Lib.hid (HU14.out.below hb16)
            have HV16 := Lib.hid (HV14.out.below hb16)
            have HM := Lib.hid hM
            have hrun : Sem.run Try.prog (Instr.makeSlice 33 (.int .i64 ((S' : Int) + 1)) (.int .i64 ((S' : Int) + 1))) W14 = .ok (.slice (some ⟨W14.heap.size, 0, none⟩) (S' + 1) (S' + 1)) W15 := hrun0
            clear hrun0 hown hrow hg hb15 hbt hb16 hkt hM HX14 HU14 HV14
            go_wp2_with fail
            refine (Go_form (by omega) hS6 HM.out (.inr (badB_yes (r := 0) (by decide) (.inr (by simp))))).mono ?_
            rintro e W17 ⟨rfl, hb17⟩
            have HX17 := Lib.hid (HX16.out.trans (hb17.mono HX16.out.size))
            have HU17 := Lib.hid (HU16.out.below hb17)
            have HV17 := Lib.hid (HV16.out.below hb17)
            clear hb17 HX16 HU16 HV16 HM
            have HB9 := Lib.hid (HB8.out.trans (HX17.out.mono HB8.out.size))
            go_wp2_with fail
            refine (RowW_c HU17.out hOk2.out hS6 hP2).mono ?_
            rintro e W18 ⟨g18, c18, RA18, RC18, rfl, hA18, hb18⟩
            have HA18 := Lib.hid hA18
            have HX18 := Lib.hid (HX17.out.trans (hb18.mono HX17.out.size))
            have HV18 := Lib.hid (HV17.out.below hb18)
            clear hA18 hb18
            go_wp2_with fail
            refine (RowW_c HV18.out hOk2.out hS6 hP2).mono ?_
            rintro e W19 ⟨g19, c19, RA19, RC19, rfl, hA19, hb19⟩
            have HA19 := Lib.hid hA19
            have HA18b := Lib.hid (HA18.out.below hb19)
            have HX19 := Lib.hid (HX18.out.trans (hb19.mono HX18.out.size))
            clear hA19 hb19
            go_wp2_with fail
            refine (RowsW_same HA18b.out.min HA19.out.min).mono ?_
            rintro e _ ⟨rfl, q20, rfl⟩
            have HX20 := Lib.hid (below_drewN HX19.out q20)
            generalize W19.drewN q20 = W20 at *
            go_wp2_with fail
            refine (RowW_c (HS8.out.below HX20.out) hOk.out hS6 (by omega)).mono ?_
            rintro e W21 ⟨g21, c21, RA21, RC21, rfl, hA21, hb21⟩
            have HA21 := Lib.hid hA21
            have HX21 := Lib.hid (HX20.out.trans (hb21.mono HX20.out.size))
            clear hA21 hb21
            go_wp2_with fail
            refine (RowsW_same HA21.out.min (HA8.out.below HX21.out).min).mono ?_
            rintro e _ ⟨rfl, q22, rfl⟩
            have HX22 := Lib.hid (below_drewN HX21.out q22)
            go_wp2
            go_ret
            exact ⟨rfl, HB8.out.trans (HX22.out.mono HB8.out.size)⟩
          · have k1 : (1000 : Int) < S' := by omega
            obtain ⟨W15, hrun0, hown, hg⟩ := run_make_full (P := Try.prog) W14 W14.heap.size 33 5 i0 (.int .u8 0) 1 Try.underlying33 hi hz0 hz1 .i64 .i64 1001 (by rw [hz2]; omega) (by unfold maxLen; omega) (Nat.le_refl _)
            rw [made22] at hown
            have hrow := own_in hown
            have hb15 := (Below.refl W14.heap.size W14).grown hg (Nat.le_refl _) (fun x hx => by cases hx)
            have hbt := (Below.refl W15.heap.size W15).alloc (Nat.le_refl _) (.cells #[.slice (some ⟨W14.heap.size, 0, none⟩) 1001 1001] 33)
            have hb16 := hb15.trans (hbt.mono hb15.size)
            have hkt := Blk.new W15 33 #[.slice (some ⟨W14.heap.size, 0, none⟩) 1001 1001]
            have hM := min_one (List.length_replicate (n := 1001) (a := (0 : F))) hkt.lt (hkt.cell 0) (hrow.below hbt)
            have HX16 := Lib.hid (HX14.out.trans (hb16.mono HX14.out.size))
            have HU16 := Lib.hid (HU14.out.below hb16)
            have HV16 := Lib.hid (HV14.out.below hb16)
            have HM := Lib.hid hM
            have hrun : Sem.run Try.prog (Instr.makeSlice 33 (.int .i64 1001) (.int .i64 1001)) W14 = .ok (.slice (some ⟨W14.heap.size, 0, none⟩) 1001 1001) W15 := hrun0
            clear hrun0 hown hrow hg hb15 hbt hb16 hkt hM HX14 HU14 HV14
            go_wp2_with fail
            refine (Go_yes (by omega) hS6 HM.out (by decide) (by decide) (fun r _ => by simp only [List.length_replicate]; omega)).mono ?_
            rintro e W17 ⟨q17, g17, c17, RA17, RC17, rfl, hb17, _⟩
            have HX17 := Lib.hid (HX16.out.trans (hb17.mono HX16.out.size))
            have HU17 := Lib.hid (HU16.out.below hb17)
            have HV17 := Lib.hid (HV16.out.below hb17)
            clear hb17 HX16 HU16 HV16 HM
            have HB9 := Lib.hid (HB8.out.trans (HX17.out.mono HB8.out.size))
            go_wp2_with fail
            refine (RowW_c HU17.out hOk2.out hS6 hP2).mono ?_
            rintro e W18 ⟨g18, c18, RA18, RC18, rfl, hA18, hb18⟩
            have HA18 := Lib.hid hA18
            have HX18 := Lib.hid (HX17.out.trans (hb18.mono HX17.out.size))
            have HV18 := Lib.hid (HV17.out.below hb18)
            clear hA18 hb18
            go_wp2_with fail
            refine (RowW_c HV18.out hOk2.out hS6 hP2).mono ?_
            rintro e W19 ⟨g19, c19, RA19, RC19, rfl, hA19, hb19⟩
            have HA19 := Lib.hid hA19
            have HA18b := Lib.hid (HA18.out.below hb19)
            have HX19 := Lib.hid (HX18.out.trans (hb19.mono HX18.out.size))
            clear hA19 hb19
            go_wp2_with fail
            refine (RowsW_same HA18b.out.min HA19.out.min).mono ?_
            rintro e _ ⟨rfl, q20, rfl⟩
            have HX20 := Lib.hid (below_drewN HX19.out q20)
            generalize W19.drewN q20 = W20 at *
            go_wp2_with fail
            refine (RowW_c (HS8.out.below HX20.out) hOk.out hS6 (by omega)).mono ?_
            rintro e W21 ⟨g21, c21, RA21, RC21, rfl, hA21, hb21⟩
            have HA21 := Lib.hid hA21
            have HX21 := Lib.hid (HX20.out.trans (hb21.mono HX20.out.size))
            clear hA21 hb21
            go_wp2_with fail
            refine (RowsW_same HA21.out.min (HA8.out.below HX21.out).min).mono ?_
            rintro e _ ⟨rfl, q22, rfl⟩
            have HX22 := Lib.hid (below_drewN HX21.out q22)
            go_wp2
            go_ret
            exact ⟨rfl, HB8.out.trans (HX22.out.mono HB8.out.size)⟩
set_option maxHeartbeats 2000000 in
theorem walk_SpanGoes (w : World) (a : Int) (ha : (Lit.int .i64 a).wf = true) (A : Option Addr) (n cap : Nat) (K : Nat → Int) (RA : Nat → Option Addr) (RL RC : Nat → Nat) (R : Nat → List F) (h : OIn w A n cap K RA RL RC R)
    (A1 : Option Addr) (n1 cap1 : Nat) (K1 : Nat → Int) (RA1 : Nat → Option Addr) (RL1 RC1 : Nat → Nat) (R1 : Nat → List F) (h1 : OIn w A1 n1 cap1 K1 RA1 RL1 RC1 R1) :
    Calls Try.prog 5 #[.int .i64 a, .slice A n cap, .slice A1 n1 cap1] w fun e w' => e = .returned (.bool true) ∧ Below w.heap.size w w' := by
  by_cases hx : fewO n RL ∧ fewO n1 RL1 ∧ 5 ≤ a ∧ a ≤ 16777216
  · obtain ⟨hf, hf1, h5, h6⟩ := hx
    obtain ⟨S, rfl⟩ : ∃ S : Nat, a = (S : Int) := ⟨a.toNat, by omega⟩
    exact goes_main w S n cap A K RA RL RC R h hf n1 cap1 A1 K1 RA1 RL1 RC1 R1 h1 hf1 (by omega) (by omega)
  · have H := Lib.hid h
    have H1 := Lib.hid h1
    obtain ⟨fv, hfv⟩ : ∃ fv, fv = decide (fewO n RL) := ⟨_, rfl⟩
    obtain ⟨fv1, hfv1⟩ : ∃ fv, fv = decide (fewO n1 RL1) := ⟨_, rfl⟩
    have HFV := Lib.hid hfv
    have HFV1 := Lib.hid hfv1
    have HM := Lib.hid hx
    clear h h1 hx hfv hfv1
    go_enter Try.func5, Try.ntmps5
    go_wp2_with fail
    refine (alive22_c _).mono ?_
    rintro e W1 ⟨rfl, hb1⟩
    have HB1 := Lib.hid hb1
    clear hb1
    go_wp2_with fail
    refine (New_c a ha W1).mono ?_
    rintro e W2 (⟨hno, rfl, hb2⟩ | ⟨S', p, rfl, h5, h6, rfl, hb2, hs2⟩)
    · have HB2 := Lib.hid (HB1.out.trans (hb2.mono HB1.out.size))
      have e1 : chkS a = 1 := by unfold chkS at hno ⊢; split <;> simp_all
      rw [e1]
      clear hb2 hno e1 HM
      go_wp2_with fail
      refine (few22_c (H.out.below HB2.out)).mono ?_
      rintro e W3 ⟨rfl, hb3⟩
      rw [← HFV.out]
      have HB3 := Lib.hid (HB2.out.trans (hb3.mono HB2.out.size))
      clear hb3
      cases fv
      · go_wp2
        go_ret
        exact ⟨rfl, HB3.out⟩
      · go_wp2_with fail
        refine (few22_c (H1.out.below HB3.out)).mono ?_
        rintro e W4 ⟨rfl, hb4⟩
        rw [← HFV1.out]
        have HB4 := Lib.hid (HB3.out.trans (hb4.mono HB3.out.size))
        clear hb4
        cases fv1
        · go_wp2
          go_ret
          exact ⟨rfl, HB4.out⟩
        · go_wp2
          go_ret
          exact ⟨rfl, HB4.out⟩
    · have HB2 := Lib.hid (HB1.out.trans (hb2.mono HB1.out.size))
      have HFF : Hid (fv = true → fv1 = false) := fun e => by
        rw [HFV.out] at e
        rw [HFV1.out]
        exact decide_eq_false fun hf => HM.out ⟨of_decide_eq_true e, hf, by omega, by omega⟩
      clear hb2 HM hs2
      go_wp2_with fail
      refine (few22_c (H.out.below HB2.out)).mono ?_
      rintro e W3 ⟨rfl, hb3⟩
      rw [← HFV.out]
      have HB3 := Lib.hid (HB2.out.trans (hb3.mono HB2.out.size))
      clear hb3
      cases fv
      · go_wp2
        go_ret
        exact ⟨rfl, HB3.out⟩
      · have hf1 := HFF.out rfl
        rw [hf1] at HFV1
        clear HFF hf1
        go_wp2_with fail
        refine (few22_c (H1.out.below HB3.out)).mono ?_
        rintro e W4 ⟨rfl, hb4⟩
        rw [← HFV1.out]
        have HB4 := Lib.hid (HB3.out.trans (hb4.mono HB3.out.size))
        clear hb4
        go_wp2
        go_ret
        exact ⟨rfl, HB4.out⟩
end Go.Proofs.Ytkijagodedmipaa
