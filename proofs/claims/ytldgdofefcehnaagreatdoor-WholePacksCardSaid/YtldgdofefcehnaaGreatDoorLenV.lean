/-
  THE CONTRACT OF slices' symMerge, by induction. No conditions.
-/
import Derived.Test.YtldgdofefcehnaaGreatDoorLenS
namespace Go.Proofs.YtldgdofefcehnaaGreatDoor
open Go.RowKit
set_option maxRecDepth 100000
set_option linter.unusedVariables false
def MergeOk (g m cg q : Nat) (A : Option Addr) (n c : Nat) (fr : List Int) (K : Nat → Int) (w : World) (d : Nat → Nat) (a e b : Nat) : Prop :=
 Calls Tryz.prog 176 #[.slice (some ⟨g, 0, none⟩) m cg, .int .i64 a, .int .i64 e, .int .i64 b, .func (.func 120) #[] #[.pointer (some ⟨q, 0, none⟩)]] w fun e' w' => ∃ d', e' = .returned (.tuple #[]) ∧ CtxS w' g m q A n c fr d' ∧ SameI d d' a b ∧ SrtI K d' a b ∧ Out g (g + 1) w w'
theorem rotR_triv {d : Nat → Nat} {s e f : Nat} (h : s = e ∨ e = f) : rotR d s e f = d := by
 funext x
 unfold rotR
 repeat' split
 all_goals first
  | rfl
  | (congr 1; omega)
theorem srt_out {K : Nat → Int} {d d' : Nat → Nat} {a m x y : Nat} (h : SameI d d' a m) (hs : SrtI K d x y) (hx : m ≤ x) : SrtI K d' x y := fun i j h1 h2 h3 => by
 rw [h.1 i (.inr (by omega)), h.1 j (.inr (by omega))]
 exact hs i j h1 h2 h3
set_option maxRecDepth 1000000 in
set_option maxHeartbeats 8000000 in
theorem symMerge_mid {w : World} {g m cg q n c : Nat} {A : Option Addr} {fr : List Int} {d : Nat → Nat} (h : CtxS w g m q A n c fr d) (hm : m ≤ 1000) (a e b : Nat) (hae : a + 2 ≤ e) (heb : e + 2 ≤ b) (hbm : b ≤ m) {K : Nat → Int} (hA : Agr fr K d a e b) (hs1 : SrtI K d a e) (hs2 : SrtI K d e b)
  (IH : ∀ (w' : World) (d' : Nat → Nat) (a' e' b' : Nat), b' - a' < b - a → a' < e' → e' < b' → b' ≤ m → CtxS w' g m q A n c fr d' → Agr fr K d' a' e' b' → SrtI K d' a' e' → SrtI K d' e' b' → MergeOk g m cg q A n c fr K w' d' a' e' b') :
  MergeOk g m cg q A n c fr K w d a e b := by
 unfold MergeOk
 obtain ⟨u, hu⟩ : ∃ u, u = e - a := ⟨_, rfl⟩
 have h1 : IntKind.i64.wrap ((e : Int) - (a : Int)) = (u : Int) := (IntWalk.i64_in _ (by omega)).trans (by omega)
 have h1' : (e : Int) - (a : Int) = (u : Int) := by omega
 have h2 : ((u : Int) == 1) = false := by rw [beq_eq_false_iff_ne]; omega
 obtain ⟨v, hv⟩ : ∃ v, v = b - e := ⟨_, rfl⟩
 have h3 : IntKind.i64.wrap ((b : Int) - (e : Int)) = (v : Int) := (IntWalk.i64_in _ (by omega)).trans (by omega)
 have h3' : (b : Int) - (e : Int) = (v : Int) := by omega
 have h4 : ((v : Int) == 1) = false := by rw [beq_eq_false_iff_ne]; omega
 obtain ⟨mid, hmid⟩ : ∃ mid, mid = (a + b) / 2 := ⟨_, rfl⟩
 have hmi : ((a : Int) + (b : Int)) / 2 = (mid : Int) := by omega
 obtain ⟨N, hN⟩ : ∃ N, N = mid + e := ⟨_, rfl⟩
 have hNi : (mid : Int) + (e : Int) = (N : Int) := by omega
 obtain ⟨p, hp⟩ : ∃ p, p = N - 1 := ⟨_, rfl⟩
 have hpi : IntKind.i64.wrap ((N : Int) - 1) = (p : Int) := (IntWalk.i64_in _ (by omega)).trans (by omega)
 have hpi' : (N : Int) - 1 = (p : Int) := by omega
 obtain ⟨b1, b2, b3, b4, b5⟩ := sek_in (a := a) (e := e) (b := b) (by omega) (by omega)
 obtain ⟨s0, hs0⟩ : ∃ s0, s0 = (sek a e b).1 := ⟨_, rfl⟩
 obtain ⟨r0, hr0⟩ : ∃ r0, r0 = (sek a e b).2 := ⟨_, rfl⟩
 have HAB : Hid (a < e ∧ e < b ∧ a + 2 ≤ e ∧ e + 2 ≤ b) := ⟨by omega, by omega, hae, heb⟩
 have HMID : Hid (mid = (a + b) / 2 ∧ N = mid + e ∧ p = (a + b) / 2 + e - 1) := ⟨hmid, hN, by omega⟩
 have HS0 : Hid (s0 = (sek a e b).1 ∧ r0 = (sek a e b).2 ∧ a ≤ s0 ∧ s0 ≤ r0 ∧ r0 ≤ e ∧ e ≤ N - r0 ∧ N - s0 ≤ b ∧ r0 < N) := ⟨hs0, hr0, by omega, by omega, by omega, by omega, by omega, by omega⟩
 have HS1 := Lib.hid hs1
 have HS2 := Lib.hid hs2
 have hway : ((mid : Int) < (e : Int) ∧ (N : Int) - (b : Int) = (s0 : Int) ∧ mid = r0) ∨ (¬ (mid : Int) < (e : Int) ∧ a = s0 ∧ e = r0) := by
  rw [hs0, hr0]
  unfold sek
  by_cases hc : (a + b) / 2 < e
  ·rw [if_pos hc]
   exact .inl ⟨by omega, by simp only []; omega, by omega⟩
  ·rw [if_neg hc]
   exact .inr ⟨by omega, rfl, rfl⟩
 have HA := Lib.hid hA
 clear hA hs1 hs2 hae heb hu hv hmid hN hp b1 b2 b3 b4 b5 hs0 hr0
 rcases hway with ⟨hgt, hn1, hr1⟩ | ⟨hgt, hn1, hr1⟩
 all_goals
  have HN1 := Lib.hid hr1
  have HN2 := Lib.hid hn1
  try (have hcheck : a = s0 := hn1; clear hcheck hn1)
  clear hr1
  go_enter Tryz.func176, Tryz.ntmps176
  go_wp2
  go_loopw [20, 21] (fun vs vr wr => ∃ (s r k : Nat), s0 ≤ s ∧ s ≤ r ∧ r ≤ r0 ∧ vs = .int .i64 s ∧ vr = .int .i64 r ∧ Hid (wr = w.drewN k) ∧ Hid (Seek K d (sek a e b).1 (sek a e b).2 ((a + b) / 2 + e - 1) s r)) (fun vs vr _ => (intOf vr).toNat - (intOf vs).toNat)
  case atStart =>
   have hz := HS0.out
   refine ⟨s0, r0, 0, Nat.le_refl _, hz.2.2.2.1, Nat.le_refl _, by have := HN2.out; first | rfl | (rw [this]), by have := HN1.out; rw [this], rfl, ?_⟩
   refine ⟨by rw [← hz.1]; exact Nat.le_refl _, hz.2.2.2.1, by rw [← hz.2.1]; exact Nat.le_refl _, fun x g1 g2 => ?_, fun x g1 g2 => ?_⟩
   ·rw [← hz.1] at g1; omega
   ·rw [← hz.2.1] at g2; omega
  case round =>
   obtain ⟨s, r, k, hss, hsr, hrr, rfl, rfl, hw, hsk⟩ := hrel
   have hctx : CtxS wr g m q A n c fr d := by rw [hw.out]; exact h.drewN k
   by_cases hlt : s < r
   ·have hlti : (s : Int) < (r : Int) := by omega
    obtain ⟨y, hy⟩ : ∃ y, y = (s + r) / 2 := ⟨_, rfl⟩
    have hyi : ((s : Int) + (r : Int)) / 2 = (y : Int) := by omega
    have hz := HS0.out
    have hmm := HMID.out
    have hym : (y : Int) < (m : Int) := by omega
    obtain ⟨x, hx⟩ : ∃ x, x = p - y := ⟨_, rfl⟩
    have hxi : IntKind.i64.wrap ((p : Int) - (y : Int)) = (x : Int) := (IntWalk.i64_in _ (by omega)).trans (by omega)
    have hxm : (x : Int) < (m : Int) := by omega
    have hc1 := hctx.row.cell (i := x) (by omega)
    have hc2 := hctx.row.cell (i := y) (by omega)
    have hcmp := fun k => rarest_c (hctx.fq.drewN k) (d x) (d y) (hctx.sym x (by omega)) (hctx.sym y (by omega))
    obtain ⟨z, hz'⟩ : ∃ z, z = cmpI (gi fr (d x)) (gi fr (d y)) := ⟨_, rfl⟩
    have hzn := cmpI_neg (gi fr (d x)) (gi fr (d y))
    rw [← hz'] at hzn
    simp only [← hz'] at hcmp
    have HC := Lib.hid hcmp
    have HY : Hid (s ≤ y ∧ y < r) := by unfold Hid; omega
    have hxe : x = (a + b) / 2 + e - 1 - y := by omega
    have hag := HA.out y x (by omega) (by omega) (by omega) (by omega)
    by_cases hless : K (d x) < K (d y)
    ·have hz0 := hzn.2 (hag.2 hless)
     have hz1 : decide (0 ≤ z) = false := decide_eq_false (by omega)
     have hz2 : decide (z < 0) = true := decide_eq_true hz0
     have hz3 : ¬ 0 ≤ z := by omega
     have hsk2 : Hid (Seek K d (sek a e b).1 (sek a e b).2 ((a + b) / 2 + e - 1) s y) := hsk.out.right ⟨HAB.out.1, HAB.out.2.1⟩ HS1.out HS2.out HY.out.1 HY.out.2 (by rw [← hxe]; exact hless)
     clear hy hz' hzn hag hless hcmp hsk hctx hz hmm hx hxe
     generalize d x = x1 at *
     generalize d y = x2 at *
     go_wp2
     go_region_held3 (fun w' => w'.cell? ⟨g, x, none⟩ = some (.int .i64 x1) ∧ w'.cell? ⟨g, y, none⟩ = some (.int .i64 x2)) (go_keep)
      ((go_at_call 120; refine (HC.out 1).mono ?_; rintro e _ ⟨rfl, k1, rfl⟩))
     go_wp2
     go_roundw
     case rel => exact ⟨s, y, _, hss, HY.out.1, by have := HY.out; omega, rfl, rfl, by unfold Hid; rw [hw.out, World.drewN_drewN], hsk2⟩
     case measure => have := HY.out; simp [intOf]; omega
    ·have hz0 : ¬ z < 0 := fun e => hless (hag.1 (hzn.1 e))
     have hz1 : decide (0 ≤ z) = true := decide_eq_true (by omega)
     have hz2 : decide (z < 0) = false := decide_eq_false hz0
     have hsk2 : Hid (Seek K d (sek a e b).1 (sek a e b).2 ((a + b) / 2 + e - 1) (y + 1) r) := hsk.out.left ⟨HAB.out.1, HAB.out.2.1⟩ HS1.out HS2.out HY.out.1 HY.out.2 (by rw [← hxe]; omega)
     clear hy hz' hzn hag hless hcmp hsk hctx hz hmm hx hxe
     generalize d x = x1 at *
     generalize d y = x2 at *
     go_wp2
     go_region_held3 (fun w' => w'.cell? ⟨g, x, none⟩ = some (.int .i64 x1) ∧ w'.cell? ⟨g, y, none⟩ = some (.int .i64 x2)) (go_keep)
      ((go_at_call 120; refine (HC.out 1).mono ?_; rintro e _ ⟨rfl, k1, rfl⟩))
     go_wp2
     go_roundw
     case rel => exact ⟨y + 1, r, _, by have := HY.out; omega, by have := HY.out; omega, hrr, by go_num, rfl, by unfold Hid; rw [hw.out, World.drewN_drewN], hsk2⟩
     case measure => have := HY.out; simp [intOf]; omega
   ·obtain rfl : s = r := by omega
    -- TAIL
    have hout : Out g (g + 1) w wr := by rw [hw.out]; exact Out.drewN _ _ _ _
    have hz := HS0.out
    have hmm := HMID.out
    have hab := HAB.out
    obtain ⟨f, hf⟩ : ∃ f, f = N - s := ⟨_, rfl⟩
    have hfi : IntKind.i64.wrap ((N : Int) - (s : Int)) = (f : Int) := (IntWalk.i64_in _ (by omega)).trans (by omega)
    have hfi' : (N : Int) - (s : Int) = (f : Int) := by omega
    have hcut := hsk.out.cut ⟨hab.1, hab.2.1⟩
    rw [← hmm.1, show mid + e - s = f by omega] at hcut
    have htn := hcut.turn HS1.out HS2.out
    have hsm : SameI d (rotR d s e f) a b := (rot_same_all d hcut.se hcut.ef).wide hcut.lo0 hcut.fb
    have HT : Hid (SrtI K (rotR d s e f) a s ∧ SrtI K (rotR d s e f) s mid ∧ SrtI K (rotR d s e f) mid f ∧ SrtI K (rotR d s e f) f b ∧ (∀ x y, a ≤ x → x < mid → mid ≤ y → y < b → K (rotR d s e f x) ≤ K (rotR d s e f y)) ∧ SameI d (rotR d s e f) a b) := ⟨htn.1, htn.2.1, htn.2.2.1, htn.2.2.2.1, htn.2.2.2.2.1, hsm⟩
    have HSF : Hid (s ≤ e ∧ e ≤ f ∧ f ≤ m) := ⟨hcut.se, hcut.ef, by have := hcut.fb; omega⟩
    have hzz : a ≤ s ∧ s ≤ e ∧ e ≤ f ∧ f ≤ b ∧ s + (f - e) = mid ∧ a + 2 ≤ e ∧ e + 2 ≤ b ∧ a < mid ∧ mid < b := ⟨hcut.lo0, hcut.se, hcut.ef, hcut.fb, hcut.mm, hab.2.2.1, hab.2.2.2, by omega, by omega⟩
    have hcase : (s = e ∧ s < mid) ∨ (s = e ∧ s = mid) ∨ (s < e ∧ f = e) ∨ (s < e ∧ e < f ∧ a < s ∧ f < b) ∨ (s < e ∧ e < f ∧ a < s ∧ f = b) ∨ (s < e ∧ e < f ∧ a = s ∧ f < b) ∨ (s < e ∧ e < f ∧ a = s ∧ f = b) := by omega
    have HMID2 := Lib.hid hmm
    have HG := Lib.hid (hcut.agr HA.out)
    clear hsk hcut htn hsm hf hz hmm hab hw
    rcases hcase with hcase | hcase | hcase | hcase | hcase | hcase | hcase
    ·have q1 : decide (s < e) = false := decide_eq_false (by omega)
     have q1i : decide ((s : Int) < (e : Int)) = false := decide_eq_false (by omega)
     have q2 : decide (e < f) = true := decide_eq_true (by omega)
     have q2i : decide ((e : Int) < (f : Int)) = true := decide_eq_true (by omega)
     have q3 : decide (a < s) = true := decide_eq_true (by omega)
     have q3i : decide ((a : Int) < (s : Int)) = true := decide_eq_true (by omega)
     have q4 : decide (s < mid) = true := decide_eq_true (by omega)
     have q4i : decide ((s : Int) < (mid : Int)) = true := decide_eq_true (by omega)
     have q5 : decide (mid < f) = false := decide_eq_false (by omega)
     have q5i : decide ((mid : Int) < (f : Int)) = false := decide_eq_false (by omega)
     have q6 : decide (f < b) = true := decide_eq_true (by omega)
     have q6i : decide ((f : Int) < (b : Int)) = true := decide_eq_true (by omega)
     have hrt : rotR d s e f = d := rotR_triv (by omega)
     have HRT := Lib.hid hrt
     clear hrt
     have HL : Hid (mid - a < b - a ∧ b - mid < b - a ∧ mid ≤ m ∧ a ≤ mid ∧ mid ≤ b ∧ a ≤ s ∧ mid ≤ f ∧ s ≤ mid ∧ f ≤ b) := by unfold Hid; omega
     have HB : Hid (a < s ∧ s < mid) := by unfold Hid; omega
     have HCc : Hid (¬ (mid < f ∧ f < b)) := by unfold Hid; omega
     clear hcase hzz
     have hctx1 : CtxS wr g m q A n c fr (rotR d s e f) := by rw [HRT.out]; exact hctx
     have hO1 := hout
     clear hctx hout
     go_wp2_with fail
     refine (IH wr _ a s mid HL.out.1 HB.out.1 HB.out.2 HL.out.2.2.1 hctx1 HG.out.1 HT.out.1 HT.out.2.1).mono ?_
     rintro e' W2 ⟨d2, rfl, hctx2, hs2, ht2, ho2⟩
     have hO2 := hO1.trans ho2
     clear hctx1 hO1 ho2
     have hu3 : SrtI K d2 mid f := srt_out hs2 HT.out.2.2.1 (Nat.le_refl _)
     have hu4 : SrtI K d2 f b := srt_out hs2 HT.out.2.2.2.1 HL.out.2.2.2.2.2.2.1
     have HS2 := Lib.hid hs2
     have HT2 := Lib.hid ht2
     have HU3 := Lib.hid hu3
     have HU4 := Lib.hid hu4
     have HG2 := Lib.hid (Agr.out hs2 HG.out.2)
     clear hs2 ht2 hu3 hu4
     have hctx3 := hctx2
     have hs3 := SameI.refl d2 mid b
     have ht3 := runs_srt HU3.out HU4.out HCc.out HL.out.2.2.2.2.2.2.1
     have hO3 := hO2
     clear hctx2 hO2
     have HS3 := Lib.hid hs3
     have HT3 := Lib.hid ht3
     clear hs3 ht3
     go_wp2
     go_end0
     exact ⟨_, rfl, hctx3, (HT.out.2.2.2.2.2.trans (HS2.out.wide (Nat.le_refl _) HL.out.2.2.2.2.1)).trans (HS3.out.wide HL.out.2.2.2.1 (Nat.le_refl _)), halves_srt HT.out.2.2.2.2.1 HS2.out HT2.out HS3.out HT3.out, hO3⟩
    ·have q1 : decide (s < e) = false := decide_eq_false (by omega)
     have q1i : decide ((s : Int) < (e : Int)) = false := decide_eq_false (by omega)
     have q2 : decide (e < f) = false := decide_eq_false (by omega)
     have q2i : decide ((e : Int) < (f : Int)) = false := decide_eq_false (by omega)
     have q3 : decide (a < s) = true := decide_eq_true (by omega)
     have q3i : decide ((a : Int) < (s : Int)) = true := decide_eq_true (by omega)
     have q4 : decide (s < mid) = false := decide_eq_false (by omega)
     have q4i : decide ((s : Int) < (mid : Int)) = false := decide_eq_false (by omega)
     have q5 : decide (mid < f) = false := decide_eq_false (by omega)
     have q5i : decide ((mid : Int) < (f : Int)) = false := decide_eq_false (by omega)
     have q6 : decide (f < b) = true := decide_eq_true (by omega)
     have q6i : decide ((f : Int) < (b : Int)) = true := decide_eq_true (by omega)
     have hrt : rotR d s e f = d := rotR_triv (by omega)
     have HRT := Lib.hid hrt
     clear hrt
     have HL : Hid (mid - a < b - a ∧ b - mid < b - a ∧ mid ≤ m ∧ a ≤ mid ∧ mid ≤ b ∧ a ≤ s ∧ mid ≤ f ∧ s ≤ mid ∧ f ≤ b) := by unfold Hid; omega
     have HB : Hid (¬ (a < s ∧ s < mid)) := by unfold Hid; omega
     have HCc : Hid (¬ (mid < f ∧ f < b)) := by unfold Hid; omega
     clear hcase hzz
     have hctx1 : CtxS wr g m q A n c fr (rotR d s e f) := by rw [HRT.out]; exact hctx
     have hO1 := hout
     clear hctx hout
     have hctx2 := hctx1
     have hs2 := SameI.refl (rotR d s e f) a mid
     have ht2 := runs_srt HT.out.1 HT.out.2.1 HB.out HL.out.2.2.2.2.2.1
     have hO2 := hO1
     clear hctx1 hO1
     have hu3 : SrtI K (rotR d s e f) mid f := srt_out hs2 HT.out.2.2.1 (Nat.le_refl _)
     have hu4 : SrtI K (rotR d s e f) f b := srt_out hs2 HT.out.2.2.2.1 HL.out.2.2.2.2.2.2.1
     have HS2 := Lib.hid hs2
     have HT2 := Lib.hid ht2
     have HU3 := Lib.hid hu3
     have HU4 := Lib.hid hu4
     have HG2 := Lib.hid (Agr.out hs2 HG.out.2)
     clear hs2 ht2 hu3 hu4
     have hctx3 := hctx2
     have hs3 := SameI.refl (rotR d s e f) mid b
     have ht3 := runs_srt HU3.out HU4.out HCc.out HL.out.2.2.2.2.2.2.1
     have hO3 := hO2
     clear hctx2 hO2
     have HS3 := Lib.hid hs3
     have HT3 := Lib.hid ht3
     clear hs3 ht3
     go_wp2
     go_end0
     exact ⟨_, rfl, hctx3, (HT.out.2.2.2.2.2.trans (HS2.out.wide (Nat.le_refl _) HL.out.2.2.2.2.1)).trans (HS3.out.wide HL.out.2.2.2.1 (Nat.le_refl _)), halves_srt HT.out.2.2.2.2.1 HS2.out HT2.out HS3.out HT3.out, hO3⟩
    ·have q1 : decide (s < e) = true := decide_eq_true (by omega)
     have q1i : decide ((s : Int) < (e : Int)) = true := decide_eq_true (by omega)
     have q2 : decide (e < f) = false := decide_eq_false (by omega)
     have q2i : decide ((e : Int) < (f : Int)) = false := decide_eq_false (by omega)
     have q3 : decide (a < s) = true := decide_eq_true (by omega)
     have q3i : decide ((a : Int) < (s : Int)) = true := decide_eq_true (by omega)
     have q4 : decide (s < mid) = false := decide_eq_false (by omega)
     have q4i : decide ((s : Int) < (mid : Int)) = false := decide_eq_false (by omega)
     have q5 : decide (mid < f) = true := decide_eq_true (by omega)
     have q5i : decide ((mid : Int) < (f : Int)) = true := decide_eq_true (by omega)
     have q6 : decide (f < b) = true := decide_eq_true (by omega)
     have q6i : decide ((f : Int) < (b : Int)) = true := decide_eq_true (by omega)
     have hrt : rotR d s e f = d := rotR_triv (by omega)
     have HRT := Lib.hid hrt
     clear hrt
     have HL : Hid (mid - a < b - a ∧ b - mid < b - a ∧ mid ≤ m ∧ a ≤ mid ∧ mid ≤ b ∧ a ≤ s ∧ mid ≤ f ∧ s ≤ mid ∧ f ≤ b) := by unfold Hid; omega
     have HB : Hid (¬ (a < s ∧ s < mid)) := by unfold Hid; omega
     have HCc : Hid (mid < f ∧ f < b) := by unfold Hid; omega
     clear hcase hzz
     have hctx1 : CtxS wr g m q A n c fr (rotR d s e f) := by rw [HRT.out]; exact hctx
     have hO1 := hout
     clear hctx hout
     have hctx2 := hctx1
     have hs2 := SameI.refl (rotR d s e f) a mid
     have ht2 := runs_srt HT.out.1 HT.out.2.1 HB.out HL.out.2.2.2.2.2.1
     have hO2 := hO1
     clear hctx1 hO1
     have hu3 : SrtI K (rotR d s e f) mid f := srt_out hs2 HT.out.2.2.1 (Nat.le_refl _)
     have hu4 : SrtI K (rotR d s e f) f b := srt_out hs2 HT.out.2.2.2.1 HL.out.2.2.2.2.2.2.1
     have HS2 := Lib.hid hs2
     have HT2 := Lib.hid ht2
     have HU3 := Lib.hid hu3
     have HU4 := Lib.hid hu4
     have HG2 := Lib.hid (Agr.out hs2 HG.out.2)
     clear hs2 ht2 hu3 hu4
     go_wp2_with fail
     refine (IH wr _ mid f b HL.out.2.1 HCc.out.1 HCc.out.2 hbm hctx2 HG2.out HU3.out HU4.out).mono ?_
     rintro e' W3 ⟨d3, rfl, hctx3, hs3, ht3, ho3⟩
     have hO3 := hO2.trans ho3
     clear hctx2 hO2 ho3
     have HS3 := Lib.hid hs3
     have HT3 := Lib.hid ht3
     clear hs3 ht3
     go_wp2
     go_end0
     exact ⟨_, rfl, hctx3, (HT.out.2.2.2.2.2.trans (HS2.out.wide (Nat.le_refl _) HL.out.2.2.2.2.1)).trans (HS3.out.wide HL.out.2.2.2.1 (Nat.le_refl _)), halves_srt HT.out.2.2.2.2.1 HS2.out HT2.out HS3.out HT3.out, hO3⟩
    ·have q1 : decide (s < e) = true := decide_eq_true (by omega)
     have q1i : decide ((s : Int) < (e : Int)) = true := decide_eq_true (by omega)
     have q2 : decide (e < f) = true := decide_eq_true (by omega)
     have q2i : decide ((e : Int) < (f : Int)) = true := decide_eq_true (by omega)
     have q3 : decide (a < s) = true := decide_eq_true (by omega)
     have q3i : decide ((a : Int) < (s : Int)) = true := decide_eq_true (by omega)
     have q4 : decide (s < mid) = true := decide_eq_true (by omega)
     have q4i : decide ((s : Int) < (mid : Int)) = true := decide_eq_true (by omega)
     have q5 : decide (mid < f) = true := decide_eq_true (by omega)
     have q5i : decide ((mid : Int) < (f : Int)) = true := decide_eq_true (by omega)
     have q6 : decide (f < b) = true := decide_eq_true (by omega)
     have q6i : decide ((f : Int) < (b : Int)) = true := decide_eq_true (by omega)
     have HR := Lib.hid (rotate_c (cg := cg) (.func (.func 120) #[] #[.pointer (some ⟨q, 0, none⟩)]) s e f hctx.row hm (by omega) (by omega) (by omega))
     have HL : Hid (mid - a < b - a ∧ b - mid < b - a ∧ mid ≤ m ∧ a ≤ mid ∧ mid ≤ b ∧ a ≤ s ∧ mid ≤ f ∧ s ≤ mid ∧ f ≤ b) := by unfold Hid; omega
     have HB : Hid (a < s ∧ s < mid) := by unfold Hid; omega
     have HCc : Hid (mid < f ∧ f < b) := by unfold Hid; omega
     clear hcase hzz
     go_wp2_with fail
     refine HR.out.mono ?_
     rintro e' W1 ⟨rfl, hr1, ho1⟩
     have hctx1 := hctx.step hr1 ho1 ((rot_same_all d (by have := HSF.out; omega) (by have := HSF.out; omega)).sym (by have := HSF.out; omega) hctx.sym)
     have hO1 := hout.trans ho1
     clear hr1 ho1 hctx hout
     go_wp2_with fail
     refine (IH W1 _ a s mid HL.out.1 HB.out.1 HB.out.2 HL.out.2.2.1 hctx1 HG.out.1 HT.out.1 HT.out.2.1).mono ?_
     rintro e' W2 ⟨d2, rfl, hctx2, hs2, ht2, ho2⟩
     have hO2 := hO1.trans ho2
     clear hctx1 hO1 ho2
     have hu3 : SrtI K d2 mid f := srt_out hs2 HT.out.2.2.1 (Nat.le_refl _)
     have hu4 : SrtI K d2 f b := srt_out hs2 HT.out.2.2.2.1 HL.out.2.2.2.2.2.2.1
     have HS2 := Lib.hid hs2
     have HT2 := Lib.hid ht2
     have HU3 := Lib.hid hu3
     have HU4 := Lib.hid hu4
     have HG2 := Lib.hid (Agr.out hs2 HG.out.2)
     clear hs2 ht2 hu3 hu4
     go_wp2_with fail
     refine (IH W2 _ mid f b HL.out.2.1 HCc.out.1 HCc.out.2 hbm hctx2 HG2.out HU3.out HU4.out).mono ?_
     rintro e' W3 ⟨d3, rfl, hctx3, hs3, ht3, ho3⟩
     have hO3 := hO2.trans ho3
     clear hctx2 hO2 ho3
     have HS3 := Lib.hid hs3
     have HT3 := Lib.hid ht3
     clear hs3 ht3
     go_wp2
     go_end0
     exact ⟨_, rfl, hctx3, (HT.out.2.2.2.2.2.trans (HS2.out.wide (Nat.le_refl _) HL.out.2.2.2.2.1)).trans (HS3.out.wide HL.out.2.2.2.1 (Nat.le_refl _)), halves_srt HT.out.2.2.2.2.1 HS2.out HT2.out HS3.out HT3.out, hO3⟩
    ·have q1 : decide (s < e) = true := decide_eq_true (by omega)
     have q1i : decide ((s : Int) < (e : Int)) = true := decide_eq_true (by omega)
     have q2 : decide (e < f) = true := decide_eq_true (by omega)
     have q2i : decide ((e : Int) < (f : Int)) = true := decide_eq_true (by omega)
     have q3 : decide (a < s) = true := decide_eq_true (by omega)
     have q3i : decide ((a : Int) < (s : Int)) = true := decide_eq_true (by omega)
     have q4 : decide (s < mid) = true := decide_eq_true (by omega)
     have q4i : decide ((s : Int) < (mid : Int)) = true := decide_eq_true (by omega)
     have q5 : decide (mid < f) = true := decide_eq_true (by omega)
     have q5i : decide ((mid : Int) < (f : Int)) = true := decide_eq_true (by omega)
     have q6 : decide (f < b) = false := decide_eq_false (by omega)
     have q6i : decide ((f : Int) < (b : Int)) = false := decide_eq_false (by omega)
     have HR := Lib.hid (rotate_c (cg := cg) (.func (.func 120) #[] #[.pointer (some ⟨q, 0, none⟩)]) s e f hctx.row hm (by omega) (by omega) (by omega))
     have HL : Hid (mid - a < b - a ∧ b - mid < b - a ∧ mid ≤ m ∧ a ≤ mid ∧ mid ≤ b ∧ a ≤ s ∧ mid ≤ f ∧ s ≤ mid ∧ f ≤ b) := by unfold Hid; omega
     have HB : Hid (a < s ∧ s < mid) := by unfold Hid; omega
     have HCc : Hid (¬ (mid < f ∧ f < b)) := by unfold Hid; omega
     clear hcase hzz
     go_wp2_with fail
     refine HR.out.mono ?_
     rintro e' W1 ⟨rfl, hr1, ho1⟩
     have hctx1 := hctx.step hr1 ho1 ((rot_same_all d (by have := HSF.out; omega) (by have := HSF.out; omega)).sym (by have := HSF.out; omega) hctx.sym)
     have hO1 := hout.trans ho1
     clear hr1 ho1 hctx hout
     go_wp2_with fail
     refine (IH W1 _ a s mid HL.out.1 HB.out.1 HB.out.2 HL.out.2.2.1 hctx1 HG.out.1 HT.out.1 HT.out.2.1).mono ?_
     rintro e' W2 ⟨d2, rfl, hctx2, hs2, ht2, ho2⟩
     have hO2 := hO1.trans ho2
     clear hctx1 hO1 ho2
     have hu3 : SrtI K d2 mid f := srt_out hs2 HT.out.2.2.1 (Nat.le_refl _)
     have hu4 : SrtI K d2 f b := srt_out hs2 HT.out.2.2.2.1 HL.out.2.2.2.2.2.2.1
     have HS2 := Lib.hid hs2
     have HT2 := Lib.hid ht2
     have HU3 := Lib.hid hu3
     have HU4 := Lib.hid hu4
     have HG2 := Lib.hid (Agr.out hs2 HG.out.2)
     clear hs2 ht2 hu3 hu4
     have hctx3 := hctx2
     have hs3 := SameI.refl d2 mid b
     have ht3 := runs_srt HU3.out HU4.out HCc.out HL.out.2.2.2.2.2.2.1
     have hO3 := hO2
     clear hctx2 hO2
     have HS3 := Lib.hid hs3
     have HT3 := Lib.hid ht3
     clear hs3 ht3
     go_wp2
     go_end0
     exact ⟨_, rfl, hctx3, (HT.out.2.2.2.2.2.trans (HS2.out.wide (Nat.le_refl _) HL.out.2.2.2.2.1)).trans (HS3.out.wide HL.out.2.2.2.1 (Nat.le_refl _)), halves_srt HT.out.2.2.2.2.1 HS2.out HT2.out HS3.out HT3.out, hO3⟩
    ·have q1 : decide (s < e) = true := decide_eq_true (by omega)
     have q1i : decide ((s : Int) < (e : Int)) = true := decide_eq_true (by omega)
     have q2 : decide (e < f) = true := decide_eq_true (by omega)
     have q2i : decide ((e : Int) < (f : Int)) = true := decide_eq_true (by omega)
     have q3 : decide (a < s) = false := decide_eq_false (by omega)
     have q3i : decide ((a : Int) < (s : Int)) = false := decide_eq_false (by omega)
     have q4 : decide (s < mid) = true := decide_eq_true (by omega)
     have q4i : decide ((s : Int) < (mid : Int)) = true := decide_eq_true (by omega)
     have q5 : decide (mid < f) = true := decide_eq_true (by omega)
     have q5i : decide ((mid : Int) < (f : Int)) = true := decide_eq_true (by omega)
     have q6 : decide (f < b) = true := decide_eq_true (by omega)
     have q6i : decide ((f : Int) < (b : Int)) = true := decide_eq_true (by omega)
     have HR := Lib.hid (rotate_c (cg := cg) (.func (.func 120) #[] #[.pointer (some ⟨q, 0, none⟩)]) s e f hctx.row hm (by omega) (by omega) (by omega))
     have HL : Hid (mid - a < b - a ∧ b - mid < b - a ∧ mid ≤ m ∧ a ≤ mid ∧ mid ≤ b ∧ a ≤ s ∧ mid ≤ f ∧ s ≤ mid ∧ f ≤ b) := by unfold Hid; omega
     have HB : Hid (¬ (a < s ∧ s < mid)) := by unfold Hid; omega
     have HCc : Hid (mid < f ∧ f < b) := by unfold Hid; omega
     clear hcase hzz
     go_wp2_with fail
     refine HR.out.mono ?_
     rintro e' W1 ⟨rfl, hr1, ho1⟩
     have hctx1 := hctx.step hr1 ho1 ((rot_same_all d (by have := HSF.out; omega) (by have := HSF.out; omega)).sym (by have := HSF.out; omega) hctx.sym)
     have hO1 := hout.trans ho1
     clear hr1 ho1 hctx hout
     have hctx2 := hctx1
     have hs2 := SameI.refl (rotR d s e f) a mid
     have ht2 := runs_srt HT.out.1 HT.out.2.1 HB.out HL.out.2.2.2.2.2.1
     have hO2 := hO1
     clear hctx1 hO1
     have hu3 : SrtI K (rotR d s e f) mid f := srt_out hs2 HT.out.2.2.1 (Nat.le_refl _)
     have hu4 : SrtI K (rotR d s e f) f b := srt_out hs2 HT.out.2.2.2.1 HL.out.2.2.2.2.2.2.1
     have HS2 := Lib.hid hs2
     have HT2 := Lib.hid ht2
     have HU3 := Lib.hid hu3
     have HU4 := Lib.hid hu4
     have HG2 := Lib.hid (Agr.out hs2 HG.out.2)
     clear hs2 ht2 hu3 hu4
     go_wp2_with fail
     refine (IH W1 _ mid f b HL.out.2.1 HCc.out.1 HCc.out.2 hbm hctx2 HG2.out HU3.out HU4.out).mono ?_
     rintro e' W3 ⟨d3, rfl, hctx3, hs3, ht3, ho3⟩
     have hO3 := hO2.trans ho3
     clear hctx2 hO2 ho3
     have HS3 := Lib.hid hs3
     have HT3 := Lib.hid ht3
     clear hs3 ht3
     go_wp2
     go_end0
     exact ⟨_, rfl, hctx3, (HT.out.2.2.2.2.2.trans (HS2.out.wide (Nat.le_refl _) HL.out.2.2.2.2.1)).trans (HS3.out.wide HL.out.2.2.2.1 (Nat.le_refl _)), halves_srt HT.out.2.2.2.2.1 HS2.out HT2.out HS3.out HT3.out, hO3⟩
    ·have q1 : decide (s < e) = true := decide_eq_true (by omega)
     have q1i : decide ((s : Int) < (e : Int)) = true := decide_eq_true (by omega)
     have q2 : decide (e < f) = true := decide_eq_true (by omega)
     have q2i : decide ((e : Int) < (f : Int)) = true := decide_eq_true (by omega)
     have q3 : decide (a < s) = false := decide_eq_false (by omega)
     have q3i : decide ((a : Int) < (s : Int)) = false := decide_eq_false (by omega)
     have q4 : decide (s < mid) = true := decide_eq_true (by omega)
     have q4i : decide ((s : Int) < (mid : Int)) = true := decide_eq_true (by omega)
     have q5 : decide (mid < f) = true := decide_eq_true (by omega)
     have q5i : decide ((mid : Int) < (f : Int)) = true := decide_eq_true (by omega)
     have q6 : decide (f < b) = false := decide_eq_false (by omega)
     have q6i : decide ((f : Int) < (b : Int)) = false := decide_eq_false (by omega)
     have HR := Lib.hid (rotate_c (cg := cg) (.func (.func 120) #[] #[.pointer (some ⟨q, 0, none⟩)]) s e f hctx.row hm (by omega) (by omega) (by omega))
     have HL : Hid (mid - a < b - a ∧ b - mid < b - a ∧ mid ≤ m ∧ a ≤ mid ∧ mid ≤ b ∧ a ≤ s ∧ mid ≤ f ∧ s ≤ mid ∧ f ≤ b) := by unfold Hid; omega
     have HB : Hid (¬ (a < s ∧ s < mid)) := by unfold Hid; omega
     have HCc : Hid (¬ (mid < f ∧ f < b)) := by unfold Hid; omega
     clear hcase hzz
     go_wp2_with fail
     refine HR.out.mono ?_
     rintro e' W1 ⟨rfl, hr1, ho1⟩
     have hctx1 := hctx.step hr1 ho1 ((rot_same_all d (by have := HSF.out; omega) (by have := HSF.out; omega)).sym (by have := HSF.out; omega) hctx.sym)
     have hO1 := hout.trans ho1
     clear hr1 ho1 hctx hout
     have hctx2 := hctx1
     have hs2 := SameI.refl (rotR d s e f) a mid
     have ht2 := runs_srt HT.out.1 HT.out.2.1 HB.out HL.out.2.2.2.2.2.1
     have hO2 := hO1
     clear hctx1 hO1
     have hu3 : SrtI K (rotR d s e f) mid f := srt_out hs2 HT.out.2.2.1 (Nat.le_refl _)
     have hu4 : SrtI K (rotR d s e f) f b := srt_out hs2 HT.out.2.2.2.1 HL.out.2.2.2.2.2.2.1
     have HS2 := Lib.hid hs2
     have HT2 := Lib.hid ht2
     have HU3 := Lib.hid hu3
     have HU4 := Lib.hid hu4
     have HG2 := Lib.hid (Agr.out hs2 HG.out.2)
     clear hs2 ht2 hu3 hu4
     have hctx3 := hctx2
     have hs3 := SameI.refl (rotR d s e f) mid b
     have ht3 := runs_srt HU3.out HU4.out HCc.out HL.out.2.2.2.2.2.2.1
     have hO3 := hO2
     clear hctx2 hO2
     have HS3 := Lib.hid hs3
     have HT3 := Lib.hid ht3
     clear hs3 ht3
     go_wp2
     go_end0
     exact ⟨_, rfl, hctx3, (HT.out.2.2.2.2.2.trans (HS2.out.wide (Nat.le_refl _) HL.out.2.2.2.2.1)).trans (HS3.out.wide HL.out.2.2.2.1 (Nat.le_refl _)), halves_srt HT.out.2.2.2.2.1 HS2.out HT2.out HS3.out HT3.out, hO3⟩
    -- END TAIL
theorem symMerge_c {g m cg q n c : Nat} {A : Option Addr} {fr : List Int} {K : Nat → Int} (hm : m ≤ 1000) : ∀ (k : Nat) (w : World) (d : Nat → Nat) (a e b : Nat), b - a ≤ k → a < e → e < b → b ≤ m → CtxS w g m q A n c fr d → Agr fr K d a e b → SrtI K d a e → SrtI K d e b → MergeOk g m cg q A n c fr K w d a e b := by
 intro k
 induction k with
 | zero => intro w d a e b h1 h2 h3; omega
 | succ k ih =>
  intro w d a e b h1 h2 h3 h4 hctx hA hs1 hs2
  by_cases c1 : e = a + 1
  ·exact symMerge_left hctx hm a e b c1 h3 h4 hA hs2
  ·by_cases c2 : b = e + 1
   ·exact symMerge_right hctx hm a e b (by omega) c2 h4 hA hs1
   ·exact symMerge_mid hctx hm a e b (by omega) (by omega) h4 hA hs1 hs2 fun w' d' a' e' b' g1 g2 g3 g4 g5 g6 g7 g8 => ih w' d' a' e' b' (by omega) g2 g3 g4 g5 g6 g7 g8
end Go.Proofs.YtldgdofefcehnaaGreatDoor
