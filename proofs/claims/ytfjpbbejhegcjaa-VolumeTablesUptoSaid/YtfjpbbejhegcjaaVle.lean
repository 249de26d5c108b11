/-
  VOLUMES: Bytes. No conditions (but for how many volumes there are, and bytes).
-/
import Derived.Test.YtfjpbbejhegcjaaVlc
namespace Go.Proofs.Ytfjpbbejhegcjaa
open Go.RowKit
set_option maxRecDepth 100000
set_option linter.unusedVariables false

theorem joinTo_length {RL : Nat → Nat} {R : Nat → List F} {n : Nat} (h : ∀ r, r < n → (R r).length = RL r) : ∀ k, k ≤ n → (joinTo R k).length = lenTo RL k
  | 0, _ => rfl
  | k + 1, hk => by
    show (joinTo R k ++ R k).length = lenTo RL k + RL k
    rw [List.length_append, joinTo_length h k (by omega), h k (by omega)]
theorem wrap64_small {b : Nat} (h : b ≤ 100000000) : wrap64 (b : Int) = (b : Int) := by unfold wrap64; omega
/-- so many bytes from a place on -/
def cutF (l : List F) (a n : Nat) : List F := (l.drop a).take n
theorem cutF_more (X r : List F) (a n : Nat) : cutF (X ++ r) a n = cutF X a n ++ ((r.drop (a - X.length)).take (n - (cutF X a n).length)) := by
  unfold cutF
  rw [List.drop_append, List.take_append]
  congr 1
  rw [List.length_take]
  by_cases h : n ≤ (X.drop a).length
  · rw [Nat.min_eq_left h, Nat.sub_self, show n - (X.drop a).length = 0 by omega]
  · rw [Nat.min_eq_right (by omega)]
theorem cutF_length (l : List F) (a n : Nat) : (cutF l a n).length = min n (l.length - a) := by
  unfold cutF
  rw [List.length_take, List.length_drop]
/-- what Bytes answers -/
def ByR (w : World) (RL : Nat → Nat) (R : Nat → List F) (n : Nat) (a m : Int) (e : Ending) (w' : World) : Prop :=
  (∃ (a0 m0 : Nat) (A' : Option Addr) (c' : Nat), a = (a0 : Int) ∧ m = (m0 : Int) ∧ a0 + m0 ≤ lenTo RL n ∧ e = .returned (.tuple #[.slice A' m0 c', .bool true]) ∧ RowIn w' A' m0 c' (cutF (joinTo R n) a0 m0) ∧ Below w.heap.size w w') ∨
    ((a < 0 ∨ m < 0 ∨ (lenTo RL n : Int) < a + m) ∧ e = .returned (.tuple #[.slice none 0 0, .bool false]) ∧ Below w.heap.size w w')
theorem ByR.yes {w : World} {RL : Nat → Nat} {R : Nat → List F} {n : Nat} {a m : Int} {e : Ending} {w' : World} (a0 m0 : Nat) (A' : Option Addr) (c' : Nat) (h1 : a = (a0 : Int)) (h2 : m = (m0 : Int)) (h3 : a0 + m0 ≤ lenTo RL n) (h4 : e = .returned (.tuple #[.slice A' m0 c', .bool true])) (h5 : RowIn w' A' m0 c' (cutF (joinTo R n) a0 m0)) (h6 : Below w.heap.size w w') : ByR w RL R n a m e w' := .inl ⟨a0, m0, A', c', h1, h2, h3, h4, h5, h6⟩
theorem ByR.no {w : World} {RL : Nat → Nat} {R : Nat → List F} {n : Nat} {a m : Int} {e : Ending} {w' : World} (h1 : a < 0 ∨ m < 0 ∨ (lenTo RL n : Int) < a + m) (h2 : e = .returned (.tuple #[.slice none 0 0, .bool false])) (h3 : Below w.heap.size w w') : ByR w RL R n a m e w' := .inr ⟨h1, h2, h3⟩
set_option maxHeartbeats 2000000 in
theorem Bytes_c {w : World} {A : Option Addr} {n cap : Nat} {RA : Nat → Option Addr} {RL RC : Nat → Nat} {R : Nat → List F} (h : MIn w A n cap RA RL RC R) (hn : n ≤ 1000) (hl : ∀ r, r < n → RL r ≤ 100000) (a m : Int) (ha : (Lit.int .i64 a).wf = true) (hm : (Lit.int .i64 m).wf = true) :
    Calls Try.prog 15 #[.slice A n cap, .int .i64 a, .int .i64 m] w fun e w' => ByR w RL R n a m e w' := by
  obtain ⟨i0, hi, hz0, hz1, hz2⟩ := info_parts info_u8
  have hwa := wf_i64 ha
  have hwm := wf_i64 hm
  have hrl : ∀ r, r < n → (R r).length = RL r := fun r hr => (h.row r hr).row.len
  have HJ := Lib.hid (joinTo_length hrl)
  have htb : lenTo RL n ≤ 100000000 := by
    have h1 := lenTo_le hl n (Nat.le_refl _)
    have h3 : n * 100000 ≤ 1000 * 100000 := Nat.mul_le_mul_right _ (by omega)
    omega
  have hn2 : n ≤ 1048576 := by omega
  have HL2 := Lib.hid (fun r (hr : r < n) => (show RL r ≤ 1048576 by have := hl r hr; omega))
  have H := Lib.hid h
  have HL := Lib.hid hl
  have HR := Lib.hid hrl
  clear h hl ha hm hrl
  by_cases h1 : a < 0
  · have HN : Hid (a < 0 ∨ m < 0 ∨ (lenTo RL n : Int) < a + m) := .inl h1
    go_enter Try.func15, Try.ntmps15
    go_wp2
    go_ret2
    exact ByR.no HN.out rfl (Below.refl _ _)
  · by_cases h2 : m < 0
    · have HN : Hid (a < 0 ∨ m < 0 ∨ (lenTo RL n : Int) < a + m) := .inr (.inl h2)
      go_enter Try.func15, Try.ntmps15
      go_wp2
      go_ret2
      exact ByR.no HN.out rfl (Below.refl _ _)
    · obtain ⟨a0, rfl⟩ : ∃ a0 : Nat, a = (a0 : Int) := ⟨a.toNat, by omega⟩
      obtain ⟨m0, rfl⟩ : ∃ m0 : Nat, m = (m0 : Int) := ⟨m.toNat, by omega⟩
      have i1 : ¬ ((a0 : Int) < 0) := by omega
      have i2 : ¬ ((m0 : Int) < 0) := by omega
      have hs : IntKind.i64.wrap (((lenTo RL n : Nat) : Int) - (a0 : Int)) = ((lenTo RL n : Nat) : Int) - (a0 : Int) := IntWalk.i64_in _ (by omega)
      clear h1 h2
      by_cases h3 : lenTo RL n < a0 + m0
      · have HN : Hid ((a0 : Int) < 0 ∨ (m0 : Int) < 0 ∨ (lenTo RL n : Int) < (a0 : Int) + (m0 : Int)) := .inr (.inr (by omega))
        have i3 : ((lenTo RL n : Nat) : Int) - (a0 : Int) < (m0 : Int) := by omega
        go_enter Try.func15, Try.ntmps15
        go_wp2_with (go_at_call 17; refine (Size_c H.out hn2 HL2.out).mono ?_; rintro e _ ⟨rfl, rfl⟩)
        go_ret2
        exact ByR.no HN.out rfl (Below.refl _ _)
      · have i3 : ¬ ((lenTo RL n : Nat) : Int) - (a0 : Int) < (m0 : Int) := by omega
        have hmb : m0 ≤ 100000000 := by omega
        have i4 : decide (((lenTo RL n : Nat) : Int) - (a0 : Int) < (m0 : Int)) = false := decide_eq_false i3
        have H3 : Hid (a0 + m0 ≤ lenTo RL n) := by unfold Hid; omega
        clear h3
        go_enter Try.func15, Try.ntmps15
        go_wp2_with (first
          | (go_at_call 17; refine (Size_c H.out hn2 HL2.out).mono ?_; rintro e _ ⟨rfl, rfl⟩)
          | (at_make; refine wpList_make_own _ rfl _ _ 25 rfl w.heap.size 5 i0 (.int .u8 0) 1 Try.underlying25 hi hz0 hz1 _ _ _ m0 rfl rfl rfl (by rw [hz2]; omega) (by unfold maxLen; omega) (Nat.le_refl _) ?_; intro w3 hown3 hg3))
        have HO3 := Lib.hid hown3
        have HB3 := Lib.hid ((Below.refl w.heap.size w).grown hg3 (Nat.le_refl _) (fun g hg => by cases hg))
        clear hown3 hg3
        go_loopw [1, 8, 30] (fun av vs iv wr => ∃ (k b t c : Nat) (V : Option Addr), k ≤ n ∧ iv = .int .i64 k ∧ av = .int .i64 b ∧ vs = .slice V t c ∧ Hid (b = a0 - lenTo RL k) ∧ Hid (t = (cutF (joinTo R k) a0 m0).length) ∧ Hid (wr.ownsRow w.heap.size 5 1 (.slice V t c) t (cs (cutF (joinTo R k) a0 m0))) ∧ Hid (Below w.heap.size w wr)) (fun _ _ iv _ => n - (intOf iv).toNat)
        case atStart =>
          have e : cutF (joinTo R 0) a0 m0 = [] := by show ([].drop a0).take m0 = []; rw [List.drop_nil, List.take_nil]
          exact ⟨0, a0, 0, m0, some ⟨w.heap.size, 0, none⟩, by omega, rfl, rfl, rfl, by show a0 = a0 - 0; omega, by rw [e]; rfl, by rw [e]; exact HO3, HB3⟩
        case round =>
          obtain ⟨k, b, t, c, V, hk, rfl, rfl, rfl, hb, ht, hown, hbel⟩ := hrel
          have htm : t ≤ m0 := by rw [ht.out, cutF_length]; exact Nat.min_le_left _ _
          by_cases hlt : k < n
          · have hkn : (k : Int) < n := by omega
            have hM := H.out.below hbel.out
            obtain ⟨b1, o1, rfl, hl1, q1⟩ := hM.at_ hlt
            have hrow := hM.row k hlt
            have hlk := HL.out k hlt
            have hbs := hbel.out.size
            have hjl := HJ.out k hk
            have hlr := HR.out k hlt
            have hcm := cutF_more (joinTo R k) (R k) a0 m0
            have hle := hrow.le
            have hrm := hrow.max
            obtain ⟨hh, hhe⟩ : ∃ hh, hh = min b (RL k) := ⟨_, rfl⟩
            have m1 : min (b : Int) (RL k : Int) = (hh : Int) := by omega
            have hh1 : hh ≤ RL k := by omega
            have hhb : hh ≤ b := by omega
            obtain ⟨x, hx⟩ : ∃ x, x = min (RL k - hh) (m0 - t) := ⟨_, rfl⟩
            have hnext : Hid (b - hh = a0 - lenTo RL (k + 1)) := by
              have e : lenTo RL (k + 1) = lenTo RL k + RL k := rfl
              have := hb.out
              unfold Hid
              omega
            have hdr : ((R k).drop (a0 - lenTo RL k)).take (m0 - t) = ((R k).drop hh).take x := by
              have hb9 := hb.out
              by_cases g : b ≤ RL k
              · have e1 : hh = a0 - lenTo RL k := by omega
                rw [← e1]
                by_cases g2 : RL k - hh ≤ m0 - t
                · rw [List.take_of_length_le (by rw [List.length_drop]; omega), List.take_of_length_le (by rw [List.length_drop]; omega)]
                · rw [show x = m0 - t by omega]
              · have d1 : (R k).drop (a0 - lenTo RL k) = [] := List.drop_eq_nil_of_le (by omega)
                have d2 : (R k).drop hh = [] := List.drop_eq_nil_of_le (by omega)
                rw [d1, d2, List.take_nil, List.take_nil]
            rw [hjl, ← ht.out, hdr] at hcm
            have hcat : Hid (cutF (joinTo R (k + 1)) a0 m0 = cutF (joinTo R k) a0 m0 ++ ((R k).drop hh).take x) := hcm
            have hlen3 : (cutF (joinTo R (k + 1)) a0 m0).length = t + x := by
              rw [hcat.out, List.length_append, ← ht.out, List.length_take, List.length_drop]
              omega
            obtain ⟨T2, hT⟩ : ∃ T2, T2 = t + x := ⟨_, rfl⟩
            have hT2 : Hid (T2 = (cutF (joinTo R (k + 1)) a0 m0).length) := by unfold Hid; rw [hlen3]; exact hT
            have hlen2 : Hid (T2 = t + x) := hT
            obtain ⟨b2, hb2⟩ : ∃ b2, b2 = b - hh := ⟨_, rfl⟩
            have hnb : Hid (b2 = a0 - lenTo RL (k + 1)) := by unfold Hid; rw [hb2]; exact hnext.out
            have m3 : (b : Int) - (hh : Int) = (b2 : Int) := by omega
            have hb2w : Hid (wrap64 (b2 : Int) = (b2 : Int)) := wrap64_small (by rw [hb2]; exact Nat.le_trans (Nat.sub_le _ _) (by rw [hb.out]; exact Nat.le_trans (Nat.sub_le _ _) (Nat.le_trans (Nat.le_add_right _ _) (Nat.le_trans H3.out htb))))
            obtain ⟨q, hq⟩ : ∃ q, q = RL k - hh := ⟨_, rfl⟩
            obtain ⟨y, hy⟩ : ∃ y, y = m0 - t := ⟨_, rfl⟩
            have m4 : (m0 : Int) - (t : Int) = (y : Int) := by omega
            have m5 : min (q : Int) (y : Int) = (x : Int) := by omega
            have HX : x ≤ q := by omega
            have m6 : RL k - hh = q := hq.symm
            have HROWS := Lib.hid hrow
            have m7 : (hh : Int) ≤ (RL k : Int) := by omega
            have m8 : (RL k : Int) ≤ (RC k : Int) := by omega
            have m9 : (x : Int) ≤ ((RC k - hh : Nat) : Int) := by omega
            have n1 : (0 : Int) ≤ (x : Int) := by omega
            have n2 : (0 : Int) ≤ (hh : Int) := by omega
            clear hcm hdr hlen3 hT hb2 hnext hjl hq hy hx hhe
            generalize cutF (joinTo R k) a0 m0 = Y at *
            generalize R k = rk at *
            by_cases hc : RC k = hh
            · have HROW : Hid (∀ A', Row wr A' x ((rk.drop hh).take x)) := fun A' => by
                have e0 : x = 0 := Nat.eq_zero_of_le_zero (Nat.le_trans HX (Nat.le_of_eq (m6.symm.trans (Nat.sub_eq_zero_of_le (Nat.le_trans hle (Nat.le_of_eq hc))))))
                rw [e0, List.take_zero]
                exact Row.nil _ _
              clear HROWS
              generalize RL k = rl at *
              generalize RC k = rc at *
              cases hra : RA k with
              | none =>
                rw [hra] at q1
                clear hra hrow
                go_wp2_with (at_builtin; refine wpList_append_row i0 hi hz0 hz1 hz2 (by rfl) (.tmp 44) (.tmp 53) (by rfl) w.heap.size (.slice V t c) t (cs Y) (by rfl) hown.out _ x _ ((rk.drop hh).take x) (by rfl) (HROW.out _) (by omega) hbs ?_; intro v4 w4 hL; obtain ⟨A4, c4, rfl, hown4, hg4, hnw4⟩ := hL)
                rw [← cs_append, ← hcat.out, ← hlen2.out] at hown4
                rw [← hlen2.out]
                have hb4 := hbel.out.grown hg4 hbs (fun g hg => (hown.out.lt g hg).1)
                have HO4 := Lib.hid hown4
                have HB4 := Lib.hid hb4
                clear hown4 hg4 hnw4 hb4
                go_wp2
                go_roundw
                case rel => exact ⟨k + 1, b2, T2, c4, A4, by omega, by go_num, val_i64 hb2w.out, rfl, hnb, hT2, HO4, HB4⟩
                case measure => simp [intOf]; omega
              | some pa =>
                rw [hra] at q1
                clear hra hrow
                go_wp2_with (at_builtin; refine wpList_append_row i0 hi hz0 hz1 hz2 (by rfl) (.tmp 44) (.tmp 53) (by rfl) w.heap.size (.slice V t c) t (cs Y) (by rfl) hown.out _ x _ ((rk.drop hh).take x) (by rfl) (HROW.out _) (by omega) hbs ?_; intro v4 w4 hL; obtain ⟨A4, c4, rfl, hown4, hg4, hnw4⟩ := hL)
                rw [← cs_append, ← hcat.out, ← hlen2.out] at hown4
                rw [← hlen2.out]
                have hb4 := hbel.out.grown hg4 hbs (fun g hg => (hown.out.lt g hg).1)
                have HO4 := Lib.hid hown4
                have HB4 := Lib.hid hb4
                clear hown4 hg4 hnw4 hb4
                go_wp2
                go_roundw
                case rel => exact ⟨k + 1, b2, T2, c4, A4, by omega, by go_num, val_i64 hb2w.out, rfl, hnb, hT2, HO4, HB4⟩
                case measure => simp [intOf]; omega
            · by_cases hz : RL k = 0
              · have HROW : Hid (∀ A', Row wr A' x ((rk.drop hh).take x)) := fun A' => by
                  have e0 : x = 0 := Nat.eq_zero_of_le_zero (Nat.le_trans HX (Nat.le_of_eq (m6.symm.trans (by rw [hz, Nat.zero_sub]))))
                  rw [e0, List.take_zero]
                  exact Row.nil _ _
                clear hrow HROWS
                generalize RL k = rl at *
                generalize RC k = rc at *
                have HZ := Lib.hid hz
                clear hz
                cases hra : RA k with
                | none =>
                  rw [hra] at q1
                  clear hra
                  go_wp2_with (at_builtin; refine wpList_append_row i0 hi hz0 hz1 hz2 (by rfl) (.tmp 44) (.tmp 53) (by rfl) w.heap.size (.slice V t c) t (cs Y) (by rfl) hown.out _ x _ ((rk.drop hh).take x) (by rfl) (HROW.out _) (by omega) hbs ?_; intro v4 w4 hL; obtain ⟨A4, c4, rfl, hown4, hg4, hnw4⟩ := hL)
                  rw [← cs_append, ← hcat.out, ← hlen2.out] at hown4
                  rw [← hlen2.out]
                  have hb4 := hbel.out.grown hg4 hbs (fun g hg => (hown.out.lt g hg).1)
                  have HO4 := Lib.hid hown4
                  have HB4 := Lib.hid hb4
                  clear hown4 hg4 hnw4 hb4
                  go_wp2
                  go_roundw
                  case rel => exact ⟨k + 1, b2, T2, c4, A4, by omega, by go_num, val_i64 hb2w.out, rfl, hnb, hT2, HO4, HB4⟩
                  case measure => simp [intOf]; omega
                | some pa =>
                  rw [hra] at q1
                  clear hra
                  go_wp2_with (at_builtin; refine wpList_append_row i0 hi hz0 hz1 hz2 (by rfl) (.tmp 44) (.tmp 53) (by rfl) w.heap.size (.slice V t c) t (cs Y) (by rfl) hown.out _ x _ ((rk.drop hh).take x) (by rfl) (HROW.out _) (by omega) hbs ?_; intro v4 w4 hL; obtain ⟨A4, c4, rfl, hown4, hg4, hnw4⟩ := hL)
                  rw [← cs_append, ← hcat.out, ← hlen2.out] at hown4
                  rw [← hlen2.out]
                  have hb4 := hbel.out.grown hg4 hbs (fun g hg => (hown.out.lt g hg).1)
                  have HO4 := Lib.hid hown4
                  have HB4 := Lib.hid hb4
                  clear hown4 hg4 hnw4 hb4
                  go_wp2
                  go_roundw
                  case rel => exact ⟨k + 1, b2, T2, c4, A4, by omega, by go_num, val_i64 hb2w.out, rfl, hnb, hT2, HO4, HB4⟩
                  case measure => simp [intOf]; omega
              · obtain ⟨p2, o2, eA, hl2, _⟩ := hrow.row.at_ (k := 0) (by omega)
                rw [eA] at q1 hrow
                have e9 : (⟨p2, o2, none⟩ : Addr).add hh = ⟨p2, o2 + hh, none⟩ := by unfold Addr.add; split <;> simp_all
                have h8 := ((hrow.slice (a := hh) (M := hh + x) (by omega) (by omega)).2 hc).row
                rw [show hh + x - hh = x by omega] at h8
                have HROW : Hid (Row wr (some ⟨p2, o2 + hh, none⟩) x ((rk.drop hh).take x)) := by
                  have h7 : Row wr (some ((⟨p2, o2, none⟩ : Addr).add hh)) x ((rk.drop hh).take x) := h8
                  rw [e9] at h7
                  exact h7
                clear hrow eA e9 HROWS h8
                generalize RL k = rl at *
                generalize RC k = rc at *
                go_wp2_with (at_builtin; refine wpList_append_row i0 hi hz0 hz1 hz2 (by rfl) (.tmp 44) (.tmp 53) (by rfl) w.heap.size (.slice V t c) t (cs Y) (by rfl) hown.out _ x _ ((rk.drop hh).take x) (by rfl) HROW.out (by omega) hbs ?_; intro v4 w4 hL; obtain ⟨A4, c4, rfl, hown4, hg4, hnw4⟩ := hL)
                rw [← cs_append, ← hcat.out, ← hlen2.out] at hown4
                rw [← hlen2.out]
                have hb4 := hbel.out.grown hg4 hbs (fun g hg => (hown.out.lt g hg).1)
                have HO4 := Lib.hid hown4
                have HB4 := Lib.hid hb4
                clear hown4 hg4 hnw4 hb4
                go_wp2
                go_roundw
                case rel => exact ⟨k + 1, b2, T2, c4, A4, by omega, by go_num, val_i64 hb2w.out, rfl, hnb, hT2, HO4, HB4⟩
                case measure => simp [intOf]; omega
          · obtain rfl : k = n := by omega
            have htm2 : t = m0 := by
              have hjl := HJ.out k (Nat.le_refl _)
              have h3 := H3.out
              rw [ht.out, cutF_length, hjl]
              omega
            clear ht
            subst htm2
            go_wp2
            go_ret2
            exact ByR.yes a0 t V c rfl rfl H3.out rfl (own_in hown.out) hbel.out
end Go.Proofs.Ytfjpbbejhegcjaa
