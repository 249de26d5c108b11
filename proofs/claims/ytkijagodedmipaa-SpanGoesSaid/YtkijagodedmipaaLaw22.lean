/-
  LAW 22: the law's own example. No conditions.
-/
import Derived.Test.YtkijagodedmipaaSpj
import Derived.Lib.SlBytesConst
namespace Go.Proofs.Ytkijagodedmipaa
open Go.RowKit
set_option maxRecDepth 100000
set_option linter.unusedVariables false

theorem RcR.use {w : World} {base p S : Nat} {v : Vs} {Fp : Nat → Prop} {b : List F} {e : Ending} {w' : World} (h : RcR w base p S v Fp b e w') : ∃ Fq, e = .returned (.tuple #[plV (((recF S v b).2.1 : Nat) : Int) (((recF S v b).2.2.1 : Nat) : Int), .int .i64 (((recF S v b).2.2.2 : Nat) : Int)]) ∧ KeepF Fp w w' ∧ Spw w' base p S (recF S v b).1 Fq ∧ ∀ k, k < w.heap.size → Fq k → Fp k :=
  ⟨_, h.1, h.2.1, h.2.2, fun k hk hq => by
    rcases hq with hq | hq
    · exact hq
    · omega⟩
theorem DtR.use {w : World} {base p S : Nat} {v : Vs} {Fp : Nat → Prop} {b : List F} {e : Ending} {w' : World} (h : DtR w base p S v Fp b e w') : ∃ Fq, e = .returned (plV (((vat S v 1).1 : Nat) : Int) (((vat S v 1).2 : Nat) : Int)) ∧ KeepF Fp w w' ∧ Spw w' base p S (vdata S v b) Fq ∧ ∀ k, k < w.heap.size → Fq k → Fp k :=
  ⟨_, h.1, h.2.1, h.2.2, fun k hk hq => by
    rcases hq with hq | hq
    · exact hq
    · omega⟩
theorem Spw.belowW {w w' : World} {base p S B : Nat} {v : Vs} {Fp : Nat → Prop} (h : Spw w base p S v Fp) (hk : KeepF Fp w w') (hB : B ≤ base) (hw : B ≤ w.heap.size) : Below B w w' := hk.below hw fun k hf => Nat.le_trans hB (h.sub k hf).1
def exA : List F := [ofN 97, ofN 98, ofN 99]
def exB : List F := [ofN 97, ofN 98, ofN 99, ofN 100, ofN 101, ofN 102, ofN 103]
def exC : List F := [ofN 117, ofN 118, ofN 119, ofN 120, ofN 121, ofN 122]
def exV1 : Vs := ⟨[pk4], exA⟩
def exV2 : Vs := ⟨[pk4, [ofN 97, ofN 98, ofN 99, ofN 117, ofN 118, ofN 119]], [ofN 120, ofN 121, ofN 122]⟩
theorem ex_rec : recF 6 v0 exA = (exV1, 1, 0, 0) := rfl
theorem ex_rec2 : recF 6 exV1 exB = (exV1, 0, 0, 50) := rfl
theorem ex_dat : vdata 6 exV1 exC = exV2 := rfl
theorem exV1_ok : VOk 6 exV1 := ⟨by decide, by decide, fun x hx => by rw [List.mem_singleton.1 hx]; decide⟩
theorem exV2_ok : VOk 6 exV2 := ⟨by decide, by decide, fun x hx => by
  rcases List.mem_cons.1 hx with rfl | hx
  · decide
  · rw [List.mem_singleton.1 hx]; decide⟩
theorem row_litM (w : World) (l : List F) (n g : Nat) (hn : n = l.length) (hg : g = w.heap.size) (hl : l.length ≤ maxLen) (C : Array Value) (hC : C = (cs l).toArray) (t : TypeId) (fz : Nat × Nat) : Row (w.alloc (.cells C t fz)) (some ⟨g, 0, none⟩) n l := by
  subst hn hg hC
  refine ⟨rfl, hl, fun _ => ⟨w.heap.size, 0, rfl, by simp, fun i hi => ?_⟩⟩
  have h := heap_alloc_new w (.cells (cs l).toArray t fz)
  rw [Nat.zero_add, cell_of_row _ _ i _ t fz h]
  simpa using cs_at hi
set_option maxHeartbeats 4000000 in
theorem alive22_c (w : World) : Calls Try.prog 7 #[] w fun e w' => e = .returned (.bool true) ∧ Below w.heap.size w w' := by
  have hcv := fun (w : World) (C : Array Value) (n c : Nat) => Lib.run_convert_bytes_const (P := Try.prog) w 33 5 C n c Try.underlying33 Try.underlying5
  go_enter Try.func7, Try.ntmps7
  go_wp2_with fail
  refine (New_c 6 (by decide) w).mono ?_
  rintro e w1 (⟨hno, _, _⟩ | ⟨S, p, hS, _, _, rfl, hb1, hs1⟩)
  case inl => exact absurd (by decide) hno
  obtain rfl : S = 6 := by omega
  have hF1 : ∀ k, Fgrow (fun _ => False) w.heap.size w1.heap.size k → k < w1.heap.size := fun k hk => (hs1.sub k hk).2
  have HF1 := Lib.hid hF1
  have HS1 := Lib.hid hs1
  have HB1 := Lib.hid hb1
  clear hs1 hb1 hF1 hS
  generalize Fgrow (fun _ => False) w.heap.size w1.heap.size = F1 at *
  go_wp2_with fail
  refine (New_c 4 (by decide) w1).mono ?_
  rintro e w2 (⟨_, rfl, hb2⟩ | ⟨S, p, hS, h5, _, _, _, _⟩)
  case inr => exact absurd h5 (by omega)
  rw [show chkS 4 = 1 by decide]
  have HS2 := Lib.hid (HS1.out.below hb2)
  have HB2 := Lib.hid (HB1.out.trans (hb2.mono HB1.out.size))
  have HF2 : Hid (∀ k, F1 k → k < w2.heap.size) := fun k hk => Nat.lt_of_lt_of_le (HF1.out k hk) hb2.size
  clear hb2 HS1 HB1 HF1
  go_wp2_with fail
  refine (NextW_c HS2.out (v0_ok (by omega)) (by omega) (by decide) 2 (by decide)).mono ?_
  rintro e w3 ⟨rfl, hb3⟩
  have e3 : nxt 6 v0 2 = (0, 4) := by decide
  rw [e3]
  unfold plV plC
  clear e3
  have HS3 := Lib.hid (HS2.out.below hb3)
  have HB3 := Lib.hid (HB2.out.trans (hb3.mono HB2.out.size))
  have HF3 : Hid (∀ k, F1 k → k < w3.heap.size) := fun k hk => Nat.lt_of_lt_of_le (HF2.out k hk) hb3.size
  clear hb3 HS2 HB2 HF2
  have hba := (Below.refl w3.heap.size w3).alloc (Nat.le_refl _) (.cells #[.int .i64 0, .int .i64 4] 37)
  have HS4 := Lib.hid (HS3.out.below hba)
  have HB4 := Lib.hid (HB3.out.trans (hba.mono HB3.out.size))
  have HK5 := Lib.hid (Blk.new w3 37 #[.int .i64 0, .int .i64 4])
  have HN5 : Hid (¬ F1 w3.heap.size) := fun h => absurd (HF3.out _ h) (by omega)
  clear hba HS3 HB3
  have hcv2 := hcv (w3.alloc (.cells #[.int .i64 0, .int .i64 4] 37)) #[.int .u8 97, .int .u8 98, .int .u8 99] 3 3
  rw [World.size_alloc] at hcv2
  go_wp2_with fail
  clear hcv2
  have hsz4 : (w3.alloc (.cells #[.int .i64 0, .int .i64 4] 37)).heap.size = w3.heap.size + 1 := by simp
  generalize w3.alloc (.cells #[.int .i64 0, .int .i64 4] 37) = W4 at *
  have hR4 := row_litM W4 exA 3 (w3.heap.size + 1) rfl hsz4.symm (by unfold maxLen; decide) #[.int .u8 97, .int .u8 98, .int .u8 99] rfl 5 (3, 4)
  have hba := (Below.refl W4.heap.size W4).alloc (Nat.le_refl _) (.cells #[.int .u8 97, .int .u8 98, .int .u8 99] 5 (3, 4))
  have hsz5 : (W4.alloc (.cells #[.int .u8 97, .int .u8 98, .int .u8 99] 5 (3, 4))).heap.size = w3.heap.size + 2 := by simp [hsz4]
  have HS5 := Lib.hid (HS4.out.below hba)
  have HB5 := Lib.hid (HB4.out.trans (hba.mono HB4.out.size))
  have HK55 := Lib.hid (HK5.out.below HK5.out.lt hba)
  refine (Record_c HS5.out (v0_ok (by omega)) (by omega) (by decide) hR4 (fun _ x o e => by injection e with e; injection e with e _ _; subst e; exact fun h => absurd (HF3.out _ h) (by omega))).mono ?_
  rintro e W6 hq
  obtain ⟨F2, rfl, hk6, hs6, hf6⟩ := hq.use
  rw [ex_rec] at hs6 ⊢
  have HS6 := Lib.hid hs6
  have HB6 := Lib.hid (HB5.out.trans (HS5.out.belowW hk6 (Nat.le_refl _) HB5.out.size))
  have HN56 : Hid (¬ F2 w3.heap.size) := fun h => HN5.out (hf6 _ (by omega) h)
  have HK56 := Lib.hid (hk6.blk HK55.out HN5.out)
  have HF6 : Hid (∀ k, F2 k → k < W6.heap.size) := fun k hk => (hs6.sub k hk).2
  clear hq hk6 hs6 hf6 hba hR4 HS4 HB4 HS5 HB5 HK5 HK55 HN5 HF3 hsz4 hsz5
  unfold plV plC
  generalize w3.heap.size = q5 at *
  clear F1
  have hba := (Below.refl W6.heap.size W6).alloc (Nat.le_refl _) (.cells #[.int .i64 1, .int .i64 0] 37)
  have HS6a := Lib.hid (HS6.out.below hba)
  have HB6a := Lib.hid (HB6.out.trans (hba.mono HB6.out.size))
  have HKn6 := Lib.hid (Blk.new W6 37 #[.int .i64 1, .int .i64 0])
  have HNn6 : Hid (¬ F2 W6.heap.size) := fun h => absurd (HF6.out _ h) (by omega)
  have HK566 := Lib.hid (HK56.out.below HK56.out.lt hba)
  clear hba
  have hcv2 := hcv (W6.alloc (.cells #[.int .i64 1, .int .i64 0] 37)) #[.int .u8 97, .int .u8 98, .int .u8 99, .int .u8 100, .int .u8 101, .int .u8 102, .int .u8 103] 7 7
  rw [World.size_alloc] at hcv2
  go_wp2_with fail
  clear hcv2
  have hsz4 : (W6.alloc (.cells #[.int .i64 1, .int .i64 0] 37)).heap.size = W6.heap.size + 1 := by simp
  generalize W6.alloc (.cells #[.int .i64 1, .int .i64 0] 37) = V6 at *
  have hR4 := row_litM V6 exB 7 (W6.heap.size + 1) rfl hsz4.symm (by unfold maxLen; decide) #[.int .u8 97, .int .u8 98, .int .u8 99, .int .u8 100, .int .u8 101, .int .u8 102, .int .u8 103] rfl 5 (7, 8)
  have hba := (Below.refl V6.heap.size V6).alloc (Nat.le_refl _) (.cells #[.int .u8 97, .int .u8 98, .int .u8 99, .int .u8 100, .int .u8 101, .int .u8 102, .int .u8 103] 5 (7, 8))
  have hsz5 : (V6.alloc (.cells #[.int .u8 97, .int .u8 98, .int .u8 99, .int .u8 100, .int .u8 101, .int .u8 102, .int .u8 103] 5 (7, 8))).heap.size = W6.heap.size + 2 := by simp [hsz4]
  have HS6b := Lib.hid (HS6a.out.below hba)
  have HB6b := Lib.hid (HB6a.out.trans (hba.mono HB6a.out.size))
  have HKn6b := Lib.hid (HKn6.out.below HKn6.out.lt hba)
  have HK566b := Lib.hid (HK566.out.below HK566.out.lt hba)
  refine (Record_c HS6b.out exV1_ok (by omega) (by decide) hR4 (fun _ x o e => by injection e with e; injection e with e _ _; subst e; exact fun h => absurd (HF6.out _ h) (by omega))).mono ?_
  rintro e Wm6 hq
  obtain ⟨F3, rfl, hk6, hs6, hf6⟩ := hq.use
  rw [ex_rec2] at hs6 ⊢
  have HSm6 := Lib.hid hs6
  have HBm6 := Lib.hid (HB6b.out.trans (HS6b.out.belowW hk6 (Nat.le_refl _) HB6b.out.size))
  have HKn6m := Lib.hid (hk6.blk HKn6b.out HNn6.out)
  have HNn6m : Hid (¬ F3 W6.heap.size) := fun h => HNn6.out (hf6 _ (by omega) h)
  have HK566m := Lib.hid (hk6.blk HK566b.out HN56.out)
  have HN566m : Hid (¬ F3 q5) := fun h => HN56.out (hf6 _ (by have := HK566b.out.lt; exact this) h)
  have HFm6 : Hid (∀ k, F3 k → k < Wm6.heap.size) := fun k hk => (hs6.sub k hk).2
  clear hq hk6 hs6 hf6 hba hR4 HS6 HB6 HS6a HB6a HS6b HB6b HKn6 HKn6b HNn6 HF6 hsz4 hsz5 HK56 HK566 HK566b HN56
  unfold plV plC
  clear F2
  generalize W6.heap.size = q6 at *
  have hba := (Below.refl Wm6.heap.size Wm6).alloc (Nat.le_refl _) (.cells #[.int .i64 0, .int .i64 0] 37)
  have HSm6a := Lib.hid (HSm6.out.below hba)
  have HBm6a := Lib.hid (HBm6.out.trans (hba.mono HBm6.out.size))
  have HKnm6 := Lib.hid (Blk.new Wm6 37 #[.int .i64 0, .int .i64 0])
  have HNnm6 : Hid (¬ F3 Wm6.heap.size) := fun h => absurd (HFm6.out _ h) (by omega)
  have HK566mm6 := Lib.hid (HK566m.out.below HK566m.out.lt hba)
  have HKn6mm6 := Lib.hid (HKn6m.out.below HKn6m.out.lt hba)
  clear hba
  have hcv2 := hcv (Wm6.alloc (.cells #[.int .i64 0, .int .i64 0] 37)) #[.int .u8 117, .int .u8 118, .int .u8 119, .int .u8 120, .int .u8 121, .int .u8 122] 6 6
  rw [World.size_alloc] at hcv2
  go_wp2_with fail
  clear hcv2
  have hsz4 : (Wm6.alloc (.cells #[.int .i64 0, .int .i64 0] 37)).heap.size = Wm6.heap.size + 1 := by simp
  generalize Wm6.alloc (.cells #[.int .i64 0, .int .i64 0] 37) = Vm6 at *
  have hR4 := row_litM Vm6 exC 6 (Wm6.heap.size + 1) rfl hsz4.symm (by unfold maxLen; decide) #[.int .u8 117, .int .u8 118, .int .u8 119, .int .u8 120, .int .u8 121, .int .u8 122] rfl 5 (6, 7)
  have hba := (Below.refl Vm6.heap.size Vm6).alloc (Nat.le_refl _) (.cells #[.int .u8 117, .int .u8 118, .int .u8 119, .int .u8 120, .int .u8 121, .int .u8 122] 5 (6, 7))
  have hsz5 : (Vm6.alloc (.cells #[.int .u8 117, .int .u8 118, .int .u8 119, .int .u8 120, .int .u8 121, .int .u8 122] 5 (6, 7))).heap.size = Wm6.heap.size + 2 := by simp [hsz4]
  have HSm6b := Lib.hid (HSm6a.out.below hba)
  have HBm6b := Lib.hid (HBm6a.out.trans (hba.mono HBm6a.out.size))
  have HKnm6b := Lib.hid (HKnm6.out.below HKnm6.out.lt hba)
  have HK566mm6b := Lib.hid (HK566mm6.out.below HK566mm6.out.lt hba)
  have HKn6mm6b := Lib.hid (HKn6mm6.out.below HKn6mm6.out.lt hba)
  refine (Data_c HSm6b.out exV1_ok (by omega) (by decide) ⟨hR4, Nat.le_refl _, by unfold maxLen; decide⟩ (fun _ x o e => by injection e with e; injection e with e _ _; subst e; exact fun h => absurd (HFm6.out _ h) (by omega))).mono ?_
  rintro e Wmm6 hq
  obtain ⟨F4, rfl, hk6, hs6, hf6⟩ := hq.use
  rw [ex_dat] at hs6
  rw [show vat 6 exV1 1 = (1, 3) by decide]
  have HSmm6 := Lib.hid hs6
  have HBmm6 := Lib.hid (HBm6b.out.trans (HSm6b.out.belowW hk6 (Nat.le_refl _) HBm6b.out.size))
  have HKnm6m := Lib.hid (hk6.blk HKnm6b.out HNnm6.out)
  have HNnm6m : Hid (¬ F4 Wm6.heap.size) := fun h => HNnm6.out (hf6 _ (by omega) h)
  have HK566mm6m := Lib.hid (hk6.blk HK566mm6b.out HN566m.out)
  have HN566mm6m : Hid (¬ F4 q5) := fun h => HN566m.out (hf6 _ (by have := HK566mm6b.out.lt; exact this) h)
  have HKn6mm6m := Lib.hid (hk6.blk HKn6mm6b.out HNn6m.out)
  have HNn6mm6m : Hid (¬ F4 q6) := fun h => HNn6m.out (hf6 _ (by have := HKn6mm6b.out.lt; exact this) h)
  have HFmm6 : Hid (∀ k, F4 k → k < Wmm6.heap.size) := fun k hk => (hs6.sub k hk).2
  clear hq hk6 hs6 hf6 hba hR4 HSm6 HBm6 HSm6a HBm6a HSm6b HBm6b HKnm6 HKnm6b HNnm6 HFm6 hsz4 hsz5 HK566m HK566mm6 HK566mm6b HN566m HKn6m HKn6mm6 HKn6mm6b HNn6m
  unfold plV plC
  clear F3
  have hba := (Below.refl Wmm6.heap.size Wmm6).alloc (Nat.le_refl _) (.cells #[.int .i64 1, .int .i64 3] 37)
  have HK10 := Lib.hid (Blk.new Wmm6 37 #[.int .i64 1, .int .i64 3])
  have HS9 := Lib.hid (HSmm6.out.below hba)
  have HB9 := Lib.hid (HBmm6.out.trans (hba.mono HBmm6.out.size))
  have HK5 := Lib.hid (HK566mm6m.out.below HK566mm6m.out.lt hba)
  have HK6 := Lib.hid (HKn6mm6m.out.below HKn6mm6m.out.lt hba)
  clear hba HSmm6 HBmm6 HK566mm6m HKn6mm6m
  go_wp2_with fail
  refine (RowW_c HS9.out exV2_ok (by omega) (by decide)).mono ?_
  rintro e W10 ⟨g, c, RA, RC, rfl, hA, hb⟩
  have HK10b := Lib.hid (HK10.out.below HK10.out.lt hb)
  have HK5b := Lib.hid (HK5.out.below HK5.out.lt hb)
  have HK6b := Lib.hid (HK6.out.below HK6.out.lt hb)
  have HB10 := Lib.hid (HB9.out.trans (hb.mono HB9.out.size))
  obtain ⟨b1, o1, e1, _, z0⟩ := MIn.at_ hA.min (r := 0) (by decide)
  obtain ⟨b2, o2, e2, _, z1⟩ := MIn.at_ hA.min (r := 1) (by decide)
  obtain ⟨b3, o3, e3, _, z2⟩ := MIn.at_ hA.min (r := 2) (by decide)
  injection e1 with e1
  injection e1 with e1 e4 _
  injection e2 with e2
  injection e2 with e2 e5 _
  injection e3 with e3
  injection e3 with e3 e6 _
  subst e1 e4 e2 e5 e3 e6
  have r0 := run_row_string (RC 0) (MIn.row hA.min 0 (by decide)).row
  have r1 := run_row_string (RC 1) (MIn.row hA.min 1 (by decide)).row
  have r2 := run_row_string (RC 2) (MIn.row hA.min 2 (by decide)).row
  change W10.cell? ⟨g, 0, none⟩ = some (.slice (RA 0) 4 (RC 0)) at z0
  change W10.cell? ⟨g, 1, none⟩ = some (.slice (RA 1) 6 (RC 1)) at z1
  change W10.cell? ⟨g, 2, none⟩ = some (.slice (RA 2) 3 (RC 2)) at z2
  change (convert 33 9 (.slice (RA 0) 4 (RC 0))).run Try.prog W10 = .ok (.string ⟨#[80, 75, 7, 8]⟩) W10 at r0
  change (convert 33 9 (.slice (RA 1) 6 (RC 1))).run Try.prog W10 = .ok (.string ⟨#[97, 98, 99, 117, 118, 119]⟩) W10 at r1
  change (convert 33 9 (.slice (RA 2) 3 (RC 2))).run Try.prog W10 = .ok (.string ⟨#[120, 121, 122]⟩) W10 at r2
  have k50 : W10.cell? ⟨q5, 0, none⟩ = some (.int .i64 0) := HK5b.out.cell 0
  have k51 : W10.cell? ⟨q5, 1, none⟩ = some (.int .i64 4) := HK5b.out.cell 1
  have k60 : W10.cell? ⟨q6, 0, none⟩ = some (.int .i64 1) := HK6b.out.cell 0
  have k61 : W10.cell? ⟨q6, 1, none⟩ = some (.int .i64 0) := HK6b.out.cell 1
  have k10 : W10.cell? ⟨Wmm6.heap.size, 0, none⟩ = some (.int .i64 1) := HK10b.out.cell 0
  have k11 : W10.cell? ⟨Wmm6.heap.size, 1, none⟩ = some (.int .i64 3) := HK10b.out.cell 1
  generalize Wmm6.heap.size = q10 at *
  have en : exV2.P.length + 1 = 3 := rfl
  rw [en]
  clear hA hb HK10 HK5 HK6 HK10b HK5b HK6b HB9 HS9 hcv en
  go_wp2
  go_ret
  exact ⟨rfl, HB10.out⟩
end Go.Proofs.Ytkijagodedmipaa
