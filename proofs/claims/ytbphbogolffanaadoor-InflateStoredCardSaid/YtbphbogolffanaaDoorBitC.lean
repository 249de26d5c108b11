/-
  THE CONTRACTS OF bits' READER.
-/
import Derived.Test.YtbphbogolffanaaDoorBitA
import Derived.Test.YtbphbogolffanaaDoorRowOut
namespace Go.Proofs.YtbphbogolffanaaDoor
open Go.RowKit
set_option maxRecDepth 100000
set_option linter.unusedVariables false

theorem val_u32 {a b : Int} (h : a = b) : Value.int .u32 a = .int .u32 b := by rw [h]
/-- a reader of bits: its bytes, how many bits were read -/
structure RdB (w : World) (p : Nat) (A : Option Addr) (len cap : Nat) (l : List F) (at_ : Nat) : Prop where
  blk : Blk w p 55 #[.slice A len cap, .int .i64 at_]
  row : RowIn w A len cap l
  le : at_ ≤ 8 * len
  ne : ∀ b o, A = some ⟨b, o, none⟩ → b ≠ p
  few : len ≤ 200000
theorem RdB.lt {w : World} {p : Nat} {A : Option Addr} {len cap : Nat} {l : List F} {at_ : Nat} (h : RdB w p A len cap l at_) : p < w.heap.size := (Array.getElem?_eq_some_iff.1 h.blk).1
theorem RdB.drewN {w : World} {p : Nat} {A : Option Addr} {len cap : Nat} {l : List F} {at_ : Nat} (h : RdB w p A len cap l at_) (q : Nat) : RdB (w.drewN q) p A len cap l at_ := ⟨h.blk, h.row.drewN q, h.le, h.ne, h.few⟩
theorem RdB.below {w w' : World} {p : Nat} {A : Option Addr} {len cap : Nat} {l : List F} {at_ : Nat} (h : RdB w p A len cap l at_) (hb : Below w.heap.size w w') : RdB w' p A len cap l at_ := ⟨h.blk.below h.lt hb, h.row.below hb, h.le, h.ne, h.few⟩
theorem RdB.set1 {w : World} {p : Nat} {A : Option Addr} {len cap : Nat} {l : List F} {at_ m : Nat} (h : RdB w p A len cap l at_) (hm : m ≤ 8 * len) : RdB (w.setCell ⟨p, 1, none⟩ (.int .i64 m)) p A len cap l m :=
  ⟨h.blk.set_ 1 (.int .i64 m), ⟨h.row.row.setOther h.ne _, h.row.le, h.row.max⟩, hm, h.ne, h.few⟩
theorem ReadB_c (A : Option Addr) (n c : Nat) (l : List F) (w : World) (h : Row w A n l) (hn : n ≤ 200000) :
    Calls Tryd.prog 13 #[.slice A n c] w fun e w' => ∃ p A' c', e = .returned (.pointer (some ⟨p, 0, none⟩)) ∧ RdB w' p A' n c' l 0 ∧ w.heap.size ≤ p ∧ Below w.heap.size w w' := by
  go_enter Tryd.func13, Tryd.ntmps13
  go_wp2_with (go_at_call 22; refine (Clone_c A n c l _ h (by omega)).mono ?_; rintro e w1 ⟨A', c', rfl, hown, hbel⟩)
  go_ret
  have hin := own_in hown
  refine ⟨w1.heap.size, A', c', rfl, ⟨Blk.new w1 _ _, ⟨hin.row.alloc _, hin.le, hin.max⟩, by omega, fun b o e => ?_, hn⟩, hbel.size, hbel.alloc hbel.size _⟩
  subst e
  have := (hown.lt b rfl).2
  omega
section
variable {w : World} {p : Nat} {A : Option Addr} {len cap : Nat} {l : List F} {at_ : Nat}
theorem AtB_c (h : RdB w p A len cap l at_) : Calls Tryd.prog 15 #[.pointer (some ⟨p, 0, none⟩)] w fun e w' => e = .returned (.int .i64 at_) ∧ w = w' := by
  have c1 := h.blk.cell 1
  simp at c1
  go_enter Tryd.func15, Tryd.ntmps15
  go_wp2
  go_ret
  exact ⟨rfl, rfl⟩
/-- a place up to a byte's end -/
def upB (n : Nat) : Nat := (n + 7) / 8 * 8
theorem AlignR_c (h : RdB w p A len cap l at_) : Calls Tryd.prog 67 #[.pointer (some ⟨p, 0, none⟩)] w fun e w' => e = .returned (.tuple #[]) ∧ RdB w' p A len cap l (upB at_) ∧ Out p (p + 1) w w' := by
  have c1 := h.blk.cell 1
  have f1 := h.blk.frozen 1
  simp at c1
  have hle := h.le
  have hf := h.few
  have hb : at_ ≤ 1600000 := by omega
  have hR := h.set1 (m := upB at_) (by unfold upB; omega)
  have HR := Lib.hid hR
  have hq : ((at_ : Int) + 7).tdiv 8 = (((at_ + 7) / 8 : Nat) : Int) := by rw [Int.tdiv_eq_ediv_of_nonneg (by omega)]; omega
  have he : Hid ((upB at_ : Int) = (((at_ + 7) / 8 : Nat) : Int) * 8) := by unfold Hid upB; omega
  have hqb : (at_ + 7) / 8 ≤ 300000 := by omega
  generalize (at_ + 7) / 8 = qq at *
  clear hR h hle hf
  go_enter Tryd.func67, Tryd.ntmps67
  go_wp2
  go_end0
  rw [← he.out]
  exact ⟨rfl, HR.out, (Out.refl _ _ _).setCell 1 _⟩
/-- the next bit is put above those that stand -/
theorem get_step (l : List F) (at_ j : Nat) (hj : j < 32) : bits BinOp.or IntKind.u32 (numB l at_ j : Int) (bits BinOp.and IntKind.u8 ((gt l ((at_ + j) / 8)).n / 2 ^ ((at_ + j) % 8)) 1 % 4294967296 * 2 ^ j % 4294967296) = ((numB l at_ (j + 1) : Nat) : Int) := by
  have hx := (gt l ((at_ + j) / 8)).lt
  have h1 : ((gt l ((at_ + j) / 8)).n : Int) / 2 ^ ((at_ + j) % 8) = (((gt l ((at_ + j) / 8)).n / 2 ^ ((at_ + j) % 8) : Nat) : Int) := by simp
  have h2 : (gt l ((at_ + j) / 8)).n / 2 ^ ((at_ + j) % 8) < 256 := Nat.lt_of_le_of_lt (Nat.div_le_self _ _) hx
  have h3 : (gt l ((at_ + j) / 8)).n / 2 ^ ((at_ + j) % 8) % 2 = if rb l (at_ + j) then 1 else 0 := by
    unfold rb
    rw [Nat.testBit_eq_decide_div_mod_eq]
    rcases Nat.mod_two_eq_zero_or_one ((gt l ((at_ + j) / 8)).n / 2 ^ ((at_ + j) % 8)) with h | h <;> simp [h]
  have hp : 2 ^ j ≤ 2 ^ 31 := Nat.pow_le_pow_right (by decide) (by omega)
  have e31 : (2 : Nat) ^ 31 = 2147483648 := rfl
  have hn := numB_lt l at_ j
  have h4 : (((if rb l (at_ + j) then 1 else 0 : Nat) : Int) % 4294967296 * 2 ^ j % 4294967296) = ((if rb l (at_ + j) then 2 ^ j else 0 : Nat) : Int) := by
    cases rb l (at_ + j)
    · simp
    · have e : ((2 : Int) ^ j) = ((2 ^ j : Nat) : Int) := by simp
      simp only [if_true]
      rw [e]
      omega
  rw [h1, show (1 : Int) = ((1 : Nat) : Int) from rfl, u8_and_nat _ _ h2 (by omega), Nat.and_one_is_mod, h3, h4, u32_or_nat _ _ (by omega) (by split <;> omega), numB_succ, or_bit _ _ _ hn]
set_option maxHeartbeats 1000000 in
theorem GetB_ok (h : RdB w p A len cap l at_) (s : Int) (hn : at_ + heldN s 32 ≤ 8 * len) :
    Calls Tryd.prog 36 #[.pointer (some ⟨p, 0, none⟩), .int .i64 s] w fun e w' => e = .returned (.tuple #[.int .u32 (numB l at_ (heldN s 32)), .bool true]) ∧ RdB w' p A len cap l (at_ + heldN s 32) ∧ Out p (p + 1) w w' := by
  have c0 := h.blk.cell 0
  have c1 := h.blk.cell 1
  have f1 := h.blk.frozen 1
  simp at c0 c1
  have hle := h.le
  have hf := h.few
  have hk := heldN_le s 32
  have hheld := heldB_c s
  generalize heldN s 32 = k at *
  have HH := Lib.hid hheld
  have hsub : IntKind.i64.wrap (8 * (len : Int) - (at_ : Int)) = ((8 * len - at_ : Nat) : Int) := (IntWalk.i64_in _ (by omega)).trans (by omega)
  have hgt : decide (8 * len - at_ < k) = false := decide_eq_false (by omega)
  clear hheld
  go_enter Tryd.func36, Tryd.ntmps36
  go_wp2_with (go_at_call 56; refine (HH.out _).mono ?_; rintro e w' ⟨rfl, rfl⟩)
  go_quiet (fail)
  go_wp2
  go_loop [6, 25] (fun v i => ∃ j : Nat, j ≤ k ∧ i = .int .i64 j ∧ v = .int .u32 (numB l at_ j)) (fun _ i => k - (intOf i).toNat)
  case atStart => exact ⟨0, by omega, rfl, rfl⟩
  case round =>
    obtain ⟨j, hj, rfl, rfl⟩ := hrel
    by_cases hlt : j < k
    · have hjk : (j : Int) < k := by omega
      have hj32 : j < 32 := by omega
      have hql : (at_ + j) / 8 < len := by omega
      have hqi : ((at_ : Int) + (j : Int)) / 8 < (len : Int) := by omega
      obtain ⟨b, o, rfl, _, hc⟩ := h.row.row.at_ hql
      have HS := Lib.hid (get_step l at_ j hj32)
      go_wp2
      go_round
      case rel => exact ⟨j + 1, by omega, by go_num, val_u32 HS.out⟩
      case measure => simp [intOf]; omega
    · obtain rfl : j = k := by omega
      have hR := (h.drewN nq).set1 hn
      have HR := Lib.hid hR
      have he : Hid ((((at_ + j : Nat) : Nat) : Int) = (at_ : Int) + (j : Int)) := by unfold Hid; omega
      clear hR h
      go_wp2
      go_ret2
      rw [← he.out]
      exact ⟨rfl, HR.out, (Out.drewN _ _ w nq).setCell 1 _⟩
set_option maxHeartbeats 1000000 in
theorem GetB_no (h : RdB w p A len cap l at_) (s : Int) (hn : 8 * len < at_ + heldN s 32) :
    Calls Tryd.prog 36 #[.pointer (some ⟨p, 0, none⟩), .int .i64 s] w fun e w' => e = .returned (.tuple #[.int .u32 0, .bool false]) ∧ RdB w' p A len cap l at_ ∧ Out p (p + 1) w w' := by
  have c0 := h.blk.cell 0
  have c1 := h.blk.cell 1
  simp at c0 c1
  have hle := h.le
  have hf := h.few
  have hk := heldN_le s 32
  have hheld := heldB_c s
  generalize heldN s 32 = k at *
  have HH := Lib.hid hheld
  have hsub : IntKind.i64.wrap (8 * (len : Int) - (at_ : Int)) = ((8 * len - at_ : Nat) : Int) := (IntWalk.i64_in _ (by omega)).trans (by omega)
  have hgt : decide (8 * len - at_ < k) = true := decide_eq_true (by omega)
  clear hheld
  go_enter Tryd.func36, Tryd.ntmps36
  go_wp2_with (go_at_call 56; refine (HH.out _).mono ?_; rintro e w' ⟨rfl, rfl⟩)
  go_quiet (fail)
  go_wp2
  go_ret2
  exact ⟨rfl, h.drewN _, Out.drewN _ _ _ _⟩
theorem BitR_ok (h : RdB w p A len cap l at_) (hn : at_ + 1 ≤ 8 * len) :
    Calls Tryd.prog 68 #[.pointer (some ⟨p, 0, none⟩)] w fun e w' => e = .returned (.tuple #[.int .u32 (numB l at_ 1), .bool true]) ∧ RdB w' p A len cap l (at_ + 1) ∧ Out p (p + 1) w w' := by
  have hg := GetB_ok h 1 hn
  have HG := Lib.hid hg
  clear hg
  go_enter Tryd.func68, Tryd.ntmps68
  go_wp2_with (go_at_call 36; refine HG.out.mono ?_; rintro e w' ⟨rfl, hR, hO⟩)
  go_ret2
  exact ⟨rfl, hR, hO⟩
theorem BitR_no (h : RdB w p A len cap l at_) (hn : 8 * len < at_ + 1) :
    Calls Tryd.prog 68 #[.pointer (some ⟨p, 0, none⟩)] w fun e w' => e = .returned (.tuple #[.int .u32 0, .bool false]) ∧ RdB w' p A len cap l at_ ∧ Out p (p + 1) w w' := by
  have hg := GetB_no h 1 hn
  have HG := Lib.hid hg
  clear hg
  go_enter Tryd.func68, Tryd.ntmps68
  go_wp2_with (go_at_call 36; refine HG.out.mono ?_; rintro e w' ⟨rfl, hR, hO⟩)
  go_ret2
  exact ⟨rfl, hR, hO⟩
set_option maxHeartbeats 1000000 in
theorem BytesR_no (h : RdB w p A len cap l at_) (m : Int) (n : Nat) (hm : max m 0 = (n : Int)) (hn : len < (at_ + 7) / 8 + n) :
    Calls Tryd.prog 57 #[.pointer (some ⟨p, 0, none⟩), .int .i64 m] w fun e w' => e = .returned (.tuple #[.slice none 0 0, .bool false]) ∧ RdB w' p A len cap l (upB at_) ∧ Out p (p + 1) w w' := by
  have hal := AlignR_c h
  have HA := Lib.hid hal
  have hle := h.le
  have hf := h.few
  have hmx : (if m < 0 then 0 else m) = (n : Int) := by split <;> omega
  obtain ⟨a, ha⟩ : ∃ a, a = (at_ + 7) / 8 := ⟨_, rfl⟩
  have hdv : ((upB at_ : Nat) : Int) / 8 = (a : Int) := by unfold upB; omega
  have hsub : IntKind.i64.wrap ((len : Int) - (a : Int)) = (len : Int) - (a : Int) := IntWalk.i64_in _ (by omega)
  have hgt : decide ((len : Int) - (a : Int) < (n : Int)) = true := decide_eq_true (by omega)
  have hab : a ≤ len := by omega
  clear hal h ha hn hm
  go_enter Tryd.func57, Tryd.ntmps57
  go_wp2_with (go_at_call 67; refine HA.out.mono ?_; rintro e w1 ⟨rfl, hR, hO⟩; have c0 := hR.blk.cell 0; have c1 := hR.blk.cell 1; simp at c0 c1)
  go_region_held3 (fun w' => w'.cell? ⟨p, 1, none⟩ = some (.int .i64 (upB at_ : Nat))) (go_keep) (fail)
  go_wp2
  go_ret2
  exact ⟨rfl, hR.drewN _, hO.trans (Out.drewN _ _ _ _)⟩
set_option maxHeartbeats 1000000 in
theorem BytesR_ok (h : RdB w p A len cap l at_) (m : Int) (n : Nat) (hm : max m 0 = (n : Int)) (hn : (at_ + 7) / 8 + n ≤ len) :
    Calls Tryd.prog 57 #[.pointer (some ⟨p, 0, none⟩), .int .i64 m] w fun e w' => ∃ A' c', e = .returned (.tuple #[.slice A' n c', .bool true]) ∧ w'.ownsRow w.heap.size 5 1 (.slice A' n c') n (cs ((l.drop ((at_ + 7) / 8)).take n)) ∧ RdB w' p A len cap l (upB at_ + 8 * n) ∧ Out p (p + 1) w w' := by
  have hal := AlignR_c h
  have HA := Lib.hid hal
  have hle := h.le
  have hf := h.few
  have hmx : (if m < 0 then 0 else m) = (n : Int) := by split <;> omega
  obtain ⟨a, ha⟩ : ∃ a, a = (at_ + 7) / 8 := ⟨_, rfl⟩
  rw [← ha] at hn ⊢
  have hdv : ((upB at_ : Nat) : Int) / 8 = (a : Int) := by unfold upB; omega
  have hub : Hid (upB at_ = 8 * a) := by unfold Hid upB; omega
  have hu2 : upB at_ ≤ 1600008 := by unfold upB; omega
  have hsub : IntKind.i64.wrap ((len : Int) - (a : Int)) = (len : Int) - (a : Int) := IntWalk.i64_in _ (by omega)
  have hgt : decide ((len : Int) - (a : Int) < (n : Int)) = false := decide_eq_false (by omega)
  have hcl := h.row.le
  have hz : (a : Int) + (n : Int) ≤ (cap : Int) := by omega
  have hz2 : (a : Int) ≤ (a : Int) + (n : Int) := by omega
  have hsl := h.row.slice (a := a) (M := a + n) (by omega) hn
  have hne := Lib.hid h.ne
  clear hal h ha hm hsl
  by_cases hcap : cap = a
  · have e1 : cap - a = 0 := by omega
    go_enter Tryd.func57, Tryd.ntmps57
    go_wp2_with (go_at_call 67; refine HA.out.mono ?_; rintro e w1 ⟨rfl, hR, hO⟩; have c0 := hR.blk.cell 0; have c1 := hR.blk.cell 1; have f1 := hR.blk.frozen 1; simp at c0 c1)
    go_region_held3 (fun w' => w'.cell? ⟨p, 1, none⟩ = some (.int .i64 (upB at_ : Nat))) (go_keep) (fail)
    have hR2 := (hR.set1 (m := upB at_ + 8 * n) (by have := hub.out; omega)).drewN 1
    rw [show ((upB at_ + 8 * n : Nat) : Int) = (upB at_ : Int) + 8 * (n : Int) by omega] at hR2
    have hrow := Lib.hid ((hR2.row.slice (a := a) (M := a + n) (by omega) hn).1 hcap)
    go_wp2_with (go_at_call 22; refine (Clone_c _ n _ ((l.drop a).take n) _ (by have hx := hrow.out.row; rw [show a + n - a = n by omega] at hx; exact hx) (by omega)).mono ?_; rintro e w2 ⟨A', c', rfl, hown, hbel⟩)
    go_ret2
    exact ⟨A', c', rfl, own_base2 hown (by have := hO.size; simp [World.setCell]; exact this), hR2.below hbel, ((hO.setCell 1 _).trans (Out.drewN _ _ _ 1)).ofB hbel⟩
  · have hcap3 : ¬ cap = a := hcap
    go_enter Tryd.func57, Tryd.ntmps57
    go_wp2_with (go_at_call 67; refine HA.out.mono ?_; rintro e w1 ⟨rfl, hR, hO⟩; have c0 := hR.blk.cell 0; have c1 := hR.blk.cell 1; have f1 := hR.blk.frozen 1; simp at c0 c1)
    go_region_held3 (fun w' => w'.cell? ⟨p, 1, none⟩ = some (.int .i64 (upB at_ : Nat))) (go_keep) (fail)
    have hR2 := (hR.set1 (m := upB at_ + 8 * n) (by have := hub.out; omega)).drewN 1
    rw [show ((upB at_ + 8 * n : Nat) : Int) = (upB at_ : Int) + 8 * (n : Int) by omega] at hR2
    have hrow := Lib.hid ((hR2.row.slice (a := a) (M := a + n) (by omega) hn).2 hcap)
    go_wp2_with (go_at_call 22; refine (Clone_c _ n _ ((l.drop a).take n) _ (by have hx := hrow.out.row; rw [show a + n - a = n by omega] at hx; exact hx) (by omega)).mono ?_; rintro e w2 ⟨A', c', rfl, hown, hbel⟩)
    go_ret2
    exact ⟨A', c', rfl, own_base2 hown (by have := hO.size; simp [World.setCell]; exact this), hR2.below hbel, ((hO.setCell 1 _).trans (Out.drewN _ _ _ 1)).ofB hbel⟩
end
end Go.Proofs.YtbphbogolffanaaDoor
