/-
  VOLUMES: Index (of right places), Rest. No conditions (but for how many volumes there are, and bytes).
-/
import Derived.Test.YtfjpbbejhegcjaaVlb
namespace Go.Proofs.Ytfjpbbejhegcjaa
open Go.RowKit
set_option maxRecDepth 100000
set_option linter.unusedVariables false

theorem MIn.take {w : World} {A : Option Addr} {n cap : Nat} {RA : Nat → Option Addr} {RL RC : Nat → Nat} {R : Nat → List F} (h : MIn w A n cap RA RL RC R) {k : Nat} (hk : k ≤ n) : MIn w A k cap RA RL RC R :=
  ⟨Nat.le_trans hk h.le, h.max, fun h0 => by
    obtain ⟨b, off, e, hl, hc⟩ := h.top (by omega)
    exact ⟨b, off, e, hl, fun r hr => hc r (by omega)⟩, fun r hr => h.row r (by omega)⟩
theorem Blk.allocV {W : World} {g : Nat} {t : TypeId} {C : Array Value} (h : Blk W g t C) (o : Obj) : Blk (W.alloc o) g t C := h.below h.lt ((Below.refl _ _).alloc (Nat.le_refl _) o)
theorem below_drewV {B : Nat} {a w : World} (h : Below B a w) : Below B a w.drew := below_drewN h 1
set_option maxHeartbeats 1000000 in
theorem IndexE_c {w : World} {A : Option Addr} {n cap : Nat} {RA : Nat → Option Addr} {RL RC : Nat → Nat} {R : Nat → List F} (h : MIn w A n cap RA RL RC R) (hn : n ≤ 1048576) (hl : ∀ r, r < n → RL r ≤ 1048576) :
    Calls Try.prog 14 #[.slice A n cap, plV (n : Nat) (0 : Nat)] w fun e w' => e = .returned (.tuple #[.int .i64 (lenTo RL n : Nat), .bool true]) ∧ Below w.heap.size w w' := by
  have H := Lib.hid h
  have HL := Lib.hid hl
  have HK := Lib.hid (Blk.new w 40 (plC n 0))
  have HB := Lib.hid ((Below.refl w.heap.size w).alloc (Nat.le_refl _) (.cells (plC n 0) 40))
  clear h hl
  have c0 := show _ = some (Value.int .i64 n) from (HK.out.cell 0).trans rfl
  have c1 := show _ = some (Value.int .i64 0) from (HK.out.cell 1).trans rfl
  have lg := HK.out.lt
  unfold plV plC at *
  go_enter Try.func14, Try.ntmps14
  go_wp2_with fail
  generalize w.alloc (.cells #[.int .i64 n, .int .i64 0] 40) = W at *
  generalize hgg : w.heap.size = g at *
  have HGG := Lib.hid hgg
  clear hgg
  go_region_held3 (fun W' => W'.cell? ⟨g, 0, none⟩ = some (.int .i64 n) ∧ W'.cell? ⟨g, 1, none⟩ = some (.int .i64 0)) (first
      | go_keep
      | (go_split_ands; exact ⟨(hbx.cell (p := ⟨g, 0, none⟩) (by exact lg)).trans (by assumption), (hbx.cell (p := ⟨g, 1, none⟩) (by exact lg)).trans (by assumption)⟩))
    ((first
      | (go_at_call 26
         refine (End_c _ _ _ _).mono ?_
         unfold plV plC
         rintro e wx ⟨rfl, hbx⟩)))
  have HBX : Hid (Below w.heap.size w wx) := by
    have h0 : Below w.heap.size w W := by first | exact HB.out | (rw [HGG.out]; exact HB.out)
    exact (below_drewV h0).trans (hbx.mono (by have := h0.size; exact this))
  clear hbx c0 c1 HB HK
  go_wp2_with fail
  refine (Size_c (H.out.below HBX.out) hn HL.out).mono ?_
  rintro e _ ⟨rfl, rfl⟩
  go_wp2
  go_ret2
  exact ⟨rfl, HBX.out⟩
set_option maxHeartbeats 2000000 in
theorem IndexI_c {w : World} {A : Option Addr} {n cap : Nat} {RA : Nat → Option Addr} {RL RC : Nat → Nat} {R : Nat → List F} (h : MIn w A n cap RA RL RC R) (hn : n ≤ 1048576) (hl : ∀ r, r < n → RL r ≤ 1048576) (d o : Nat) (hd : d < n) (ho : o < RL d) :
    Calls Try.prog 14 #[.slice A n cap, plV (d : Nat) (o : Nat)] w fun e w' => e = .returned (.tuple #[.int .i64 (lenTo RL d + o : Nat), .bool true]) ∧ Below w.heap.size w w' := by
  have hrl := hl d hd
  have hld := lenTo_le hl d (by omega)
  have hb9 : lenTo RL d ≤ 1099511627776 := by
    have h3 : d * 1048576 ≤ 1048576 * 1048576 := Nat.mul_le_mul_right _ (by omega)
    omega
  have H := Lib.hid h
  have HL := Lib.hid hl
  have HK := Lib.hid (Blk.new w 40 (plC d o))
  have HB := Lib.hid ((Below.refl w.heap.size w).alloc (Nat.le_refl _) (.cells (plC d o) 40))
  obtain ⟨b1, o1, rfl, hl1, q1⟩ := h.at_ hd
  clear h hl hld
  have c0 := show _ = some (Value.int .i64 d) from (HK.out.cell 0).trans rfl
  have c1 := show _ = some (Value.int .i64 o) from (HK.out.cell 1).trans rfl
  have lg := HK.out.lt
  have hne : ((d : Int) == (n : Int)) = false := by rw [beq_eq_false_iff_ne]; omega
  have hle := H.out.le
  have hmx := H.out.nmax
  unfold plV plC at *
  go_enter Try.func14, Try.ntmps14
  go_wp2_with fail
  generalize w.alloc (.cells #[.int .i64 d, .int .i64 o] 40) = W at *
  generalize hgg : w.heap.size = g at *
  have HGG := Lib.hid hgg
  clear hgg
  go_region_held3 (fun W' => W'.cell? ⟨g, 0, none⟩ = some (.int .i64 d) ∧ W'.cell? ⟨g, 1, none⟩ = some (.int .i64 o)) (first
      | go_keep
      | (go_split_ands; exact ⟨(hbx.cell (p := ⟨g, 0, none⟩) (by exact lg)).trans (by assumption), (hbx.cell (p := ⟨g, 1, none⟩) (by exact lg)).trans (by assumption)⟩))
    ((first
      | (go_at_call 26
         refine (End_c _ _ _ _).mono ?_
         unfold plV plC
         rintro e wx ⟨rfl, hbx⟩)))
  have x0 := (hbx.cell (p := ⟨g, 0, none⟩) (by exact lg)).trans (show W.drew.cell? ⟨g, 0, none⟩ = _ from c0)
  have x1 := (hbx.cell (p := ⟨g, 1, none⟩) (by exact lg)).trans (show W.drew.cell? ⟨g, 1, none⟩ = _ from c1)
  have HBX : Hid (Below w.heap.size w wx) := by
    have h0 : Below w.heap.size w W := by first | exact HB.out | (rw [HGG.out]; exact HB.out)
    exact (below_drewV h0).trans (hbx.mono (by have := h0.size; exact this))
  have q2 := (HBX.out.cell (p := ⟨b1, o1 + d, none⟩) (by first | exact hl1 | (rw [HGG.out]; exact hl1))).trans q1
  have HM := Lib.hid ((H.out.below HBX.out).take (k := d) (by omega))
  clear hbx c0 c1 HB HK q1
  have j1 : decide ((d : Int) < 0) = false := by rw [decide_eq_false_iff_not]; omega
  have j2 : decide ((n : Int) ≤ (d : Int)) = false := by rw [decide_eq_false_iff_not]; omega
  have j3 : decide ((o : Int) < 0) = false := by rw [decide_eq_false_iff_not]; omega
  have j4 : decide ((RL d : Int) ≤ (o : Int)) = false := by rw [decide_eq_false_iff_not]; omega
  have k1 : ¬ ((d : Int) < 0) := by omega
  have k2 : (d : Int) < (n : Int) := by omega
  have k3 : ¬ ((o : Int) < 0) := by omega
  have k4 : (o : Int) < (RL d : Int) := by omega
  have k5 : (0 : Int) ≤ (d : Int) := by omega
  have k6 : (d : Int) ≤ (cap : Int) := by omega
  have s1 : IntKind.i64.wrap (((lenTo RL d : Nat) : Int) + (o : Int)) = ((lenTo RL d : Nat) : Int) + (o : Int) := IntWalk.i64_in _ (by omega)
  go_wp2_with fail
  go_quiet (fail)
  go_wp2_with fail
  go_quiet ((go_at_call 17; first | exact quiet_left (Size_c (HM.out.drewN _) (by omega) (fun r hr => HL.out r (by omega))) | exact quiet_add_left (Size_c (HM.out.drewN _) (by omega) (fun r hr => HL.out r (by omega)))))
  go_wp2
  go_ret2
  exact ⟨by simp, below_drewN (below_drewN HBX.out _) _⟩
end Go.Proofs.Ytfjpbbejhegcjaa
