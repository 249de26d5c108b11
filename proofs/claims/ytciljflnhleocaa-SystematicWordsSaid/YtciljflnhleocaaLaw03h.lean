/-
  THE DOCUMENT's OWN Times OF ROWS: it is what Times answers. Rows of at most 2^30.
-/
import Derived.Test.YtciljflnhleocaaLaw03b
namespace Go.Proofs.Ytciljflnhleocaa
open Go.RowKit
set_option maxRecDepth 100000
set_option linter.unusedVariables false

set_option maxHeartbeats 2000000 in
theorem RefTimes_c {w : World} {A : Option Addr} {n cap : Nat} {RA : Nat → Option Addr} {RL RC : Nat → Nat} {R : Nat → List F} (h : MIn w A n cap RA RL RC R) (B : Option Addr) (m cb : Nat) (x : List F) (hx : Row w B m x) (hn : n ≤ 1073741824) :
    Calls Try.prog 21 #[.slice A n cap, .slice B m cb] w fun e w' => ∃ O co, e = .returned (.slice O n co) ∧ w'.ownsRow w.heap.size 5 1 (.slice O n co) n (cs (timesF n RL R x)) ∧ Below w.heap.size w w' := by
  obtain ⟨i0, hi, hz0, hz1, hz2⟩ := info_parts info_u8
  have hxl := Lib.hid hx.len
  have hmm := hx.max
  have hnm := h.nmax
  have HRM : Hid (∀ r, r < n → RL r ≤ 9223372036854775807) := fun r hr => (h.row r hr).row.max
  go_enter Try.func21, Try.ntmps21
  go_wp2
  go_loopw [5, 6] (fun vs i wr => ∃ (k : Nat) (S : Option Addr) (cS : Nat), k ≤ n ∧ i = .int .i64 k ∧ vs = .slice S k cS ∧ wr.ownsRow w.heap.size 5 1 (.slice S k cS) k (cs (mkF (fun r => dotF (R r) x (min (RL r) x.length)) k)) ∧ Below w.heap.size w wr) (fun _ i _ => n - (intOf i).toNat)
  case atStart => exact ⟨0, _, 0, by omega, rfl, rfl, World.ownsRow_made (e := 5) (size := 1) w #[] 0 (Nat.le_refl _) (Nat.zero_le _) rfl, (Below.refl _ _).alloc (Nat.le_refl _) _⟩
  case round =>
    obtain ⟨k, S, cS, hk, rfl, rfl, hown, hbel⟩ := hrel
    by_cases hlt : k < n
    · have hkn : (k : Int) < n := by omega
      have h2 := h.below hbel
      have hx2 := hx.below hbel
      obtain ⟨L, hL⟩ : ∃ L, L = RL k := ⟨_, rfl⟩
      have hLm : L ≤ 9223372036854775807 := by rw [hL]; exact HRM.out k hlt
      obtain ⟨b1, o1, rfl, _, q1⟩ := h2.at_ hlt
      have hrow := (h2.row k hlt).row
      rw [← hL] at q1 hrow
      have HLL := Lib.hid hL
      clear hL
      obtain ⟨XA, hXA⟩ : ∃ XA, XA = RA k := ⟨_, rfl⟩
      rw [← hXA] at q1 hrow
      clear hXA
      go_wp2
      obtain ⟨W, rfl⟩ : ∃ W, W = wr := ⟨_, rfl⟩
      go_loopw [7, 8] (fun c j wr2 => ∃ p q : Nat, p ≤ L ∧ p ≤ m ∧ j = .int .i64 p ∧ c = .int .u8 (dotF (R k) x p).n ∧ Hid (wr2 = W.drewN q)) (fun _ j _ => L - (intOf j).toNat)
      case atStart => exact ⟨0, 0, by omega, by omega, rfl, rfl, rfl⟩
      case round =>
        obtain ⟨p, q, hp1, hp2, rfl, rfl, hw⟩ := hrel
        have hrow3 := hrow.drewN q
        have hx3 := hx2.drewN q
        rw [← hw.out] at hrow3 hx3
        have q3 : wr.cell? ⟨b1, o1 + k, none⟩ = some (.slice XA L (RC k)) := by rw [hw.out]; exact q1
        have hcase : (p < L ∧ p < m) ∨ ((p = L ∨ (p < L ∧ p = m)) ∧ min L m = p) := by omega
        rcases hcase with ⟨hpL, hpm⟩ | ⟨hex, hmin⟩
        · obtain ⟨b3, o3, rfl, _, q4⟩ := hrow3.at_ hpL
          obtain ⟨b4, o4, rfl, _, q5⟩ := hx3.at_ hpm
          have hpLi : (p : Int) < L := by omega
          have hpmi : (p : Int) < m := by omega
          have hx4 := bits_xor (dotF (R k) x p) (gt (R k) p * gt x p)
          clear hrow3 hx3 hown hbel h2
          go_wp2
          go_region_held3 (fun w' => w'.cell? ⟨b1, o1 + k, none⟩ = some (.slice (some ⟨b3, o3, none⟩) L (RC k)) ∧ w'.cell? ⟨b3, o3 + p, none⟩ = some (.int .u8 (gt (R k) p).n) ∧ w'.cell? ⟨b4, o4 + p, none⟩ = some (.int .u8 (gt x p).n)) (go_keep)
            ((go_at_call 45; refine (RefMul_c _ _ _).mono ?_; rintro e w' ⟨rfl, rfl⟩))
          go_wp2
          go_roundw
          case rel => exact ⟨p + 1, q + 1, by omega, by omega, by go_num, rfl, by unfold Hid; rw [hw.out]; rfl⟩
          case measure => simp [intOf]; omega
        · have hown3 : wr.ownsRow w.heap.size 5 1 (.slice S k cS) k (cs (mkF (fun r => dotF (R r) x (min (RL r) x.length)) k)) := by rw [hw.out]; exact hown
          have hb3 : Below w.heap.size w wr := by rw [hw.out]; exact below_drewN hbel q
          have hval : Hid (cs (mkF (fun r => dotF (R r) x (min (RL r) x.length)) (k + 1)) = cs (mkF (fun r => dotF (R r) x (min (RL r) x.length)) k) ++ [Value.int .u8 ((dotF (R k) x p).n : Int)]) := by
            show cs (mkF _ k ++ [dotF (R k) x (min (RL k) x.length)]) = _
            rw [cs_append, ← HLL.out, hxl.out, hmin]
            rfl
          clear hown hbel h2 hrow hrow3 hx2 hx3
          rcases hex with hex | ⟨hex1, hex2⟩
          · have hpLi : ¬ (p : Int) < L := by omega
            clear hex hmin
            go_wp2_with (at_builtin; refine wpList_append_lies _ rfl (.tmp 45) (.tmp 47) 23 rfl w.heap.size 5 i0 (.int .u8 0) 1 1 Try.underlying23 hi hz0 hz1 hz2 rfl (by decide) (.slice S k cS) k (cs (mkF (fun r => dotF (R r) x (min (RL r) x.length)) k)) rfl (hown3.alloc _) ⟨wr.heap.size, 0, none⟩ 1 1 [.int .u8 (dotF (R k) x p).n] rfl rfl (one_cell wr _ _) (by intro u hu; simp at hu; subst hu; rfl) (by omega) (by unfold maxLen; omega) (by omega) (by have := hb3.size; simp; omega) (wr.heap.size + 1) (by simp) ?_; intro g4 c4 w4 hown4 hg4 hat4 hlt4)
            rw [← hval.out] at hown4
            have hb4 := (hb3.alloc hb3.size _).grown hg4 (by have := hb3.size; simp; omega) (fun g hg => (hown3.lt g hg).1)
            go_wp2
            go_roundw
            case rel => exact ⟨k + 1, _, c4, by omega, by go_num, rfl, hown4, hb4⟩
            case measure => simp [intOf]; omega
          · have hpLi : (p : Int) < L := by omega
            have hpmi : ¬ (p : Int) < m := by omega
            clear hex1 hex2 hmin
            go_wp2_with (at_builtin; refine wpList_append_lies _ rfl (.tmp 45) (.tmp 47) 23 rfl w.heap.size 5 i0 (.int .u8 0) 1 1 Try.underlying23 hi hz0 hz1 hz2 rfl (by decide) (.slice S k cS) k (cs (mkF (fun r => dotF (R r) x (min (RL r) x.length)) k)) rfl (hown3.alloc _) ⟨wr.heap.size, 0, none⟩ 1 1 [.int .u8 (dotF (R k) x p).n] rfl rfl (one_cell wr _ _) (by intro u hu; simp at hu; subst hu; rfl) (by omega) (by unfold maxLen; omega) (by omega) (by have := hb3.size; simp; omega) (wr.heap.size + 1) (by simp) ?_; intro g4 c4 w4 hown4 hg4 hat4 hlt4)
            rw [← hval.out] at hown4
            have hb4 := (hb3.alloc hb3.size _).grown hg4 (by have := hb3.size; simp; omega) (fun g hg => (hown3.lt g hg).1)
            go_wp2
            go_roundw
            case rel => exact ⟨k + 1, _, c4, by omega, by go_num, rfl, hown4, hb4⟩
            case measure => simp [intOf]; omega
    · obtain rfl : k = n := by omega
      go_wp2
      go_ret
      exact ⟨S, cS, rfl, hown, hbel⟩
end Go.Proofs.Ytciljflnhleocaa
