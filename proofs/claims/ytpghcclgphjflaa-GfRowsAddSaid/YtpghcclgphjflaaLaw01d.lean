/-
  LAW 01's WALK OVER ROWS (GfRows): it returns true, and writes nothing that was there. No conditions.
-/
import Derived.Test.YtpghcclgphjflaaLaw01
import Derived.Test.YtpghcclgphjflaaFrame
namespace Go.Proofs.Ytpghcclgphjflaa
open Go.RowKit
set_option linter.unusedVariables false

theorem dotF_ge (a b : List F) (m : Nat) (h : ∀ i, m ≤ i → gt a i * gt b i = 0) (k : Nat) : dotF a b (m + k) = dotF a b m := by
  induction k with
  | zero => rfl
  | succ k ih =>
    show dotF a b (m + k) + gt a (m + k) * gt b (m + k) = _
    rw [ih, h _ (by omega), add_zero]
theorem dotF_min (a b : List F) (n m : Nat) (ha : a.length = n) (hb : b.length = m) : dotF a b (min n m) = dotF a b n := by
  have e : n = min n m + (n - min n m) := by omega
  conv => rhs; rw [e]
  rw [dotF_ge]
  intro i hi
  rcases (show n ≤ i ∨ m ≤ i by omega) with h | h
  · rw [gt_ge (by omega), zero_mul]
  · rw [gt_ge (l := b) (by omega), mul_zero]
theorem bits_add (x y : F) : bits BinOp.xor IntKind.u8 (x.n : Int) (y.n : Int) = ((x + y).n : Int) := by
  rw [u8_xor_nat _ _ x.lt y.lt, add_n]

set_option maxHeartbeats 1000000 in
set_option maxRecDepth 100000 in
theorem rows_small (A B : Option Addr) (n m ca cb : Nat) (a b : List F) (x : F) (w : World) (ha : Row w A n a) (hb : Row w B m b) (hn : n ≤ 300) (hm : m ≤ 300) :
    Calls Try.prog 4 #[.slice A n ca, .slice B m cb, .int .u8 x.n] w fun e w' => e = .returned (.bool true) ∧ Below w.heap.size w w' := by
  have hla := Lib.hid ha.len
  have hlb := Lib.hid hb.len
  go_enter Try.func4, Try.ntmps4
  go_wp2_with (go_at_call 14; refine (alive01_c _).mono ?_; rintro e w1 ⟨rfl, hb1⟩)
  have ha1 := ha.below hb1
  have hb1' := hb.below hb1
  go_loopw [7, 23] (fun p i wr => ∃ k q : Nat, k ≤ n ∧ p = .int .u8 (dotF a b k).n ∧ i = .int .i64 k ∧ wr = w1.drewN q) (fun _ i _ => n - (intOf i).toNat)
  case atStart => exact ⟨0, 0, by omega, rfl, rfl, rfl⟩
  case round =>
    obtain ⟨k, q, hk, rfl, rfl, rfl⟩ := hrel
    by_cases hlt : k < n
    · obtain ⟨b1, o1, rfl, _, h1⟩ := ha1.at_ hlt
      by_cases hltm : k < m
      · obtain ⟨b2, o2, rfl, _, h2⟩ := hb1'.at_ hltm
        have hx := bits_add (dotF a b k) (gt a k * gt b k)
        go_wp2
        go_quiet ((go_at_call 18; exact quiet_add_left (RefMul_c _ _ _)))
        go_wp2
        go_roundw
        case rel => exact ⟨k + 1, _, by omega, rfl, by go_num, rfl⟩
        case measure => simp [intOf]; omega
      · have hst : Hid (dotF a b (k + 1) = dotF a b k) := by
          show dotF a b k + gt a k * gt b k = _
          rw [gt_ge (l := b) (by have := hlb.out; omega), mul_zero, add_zero]
        go_wp2
        go_roundw
        case rel => exact ⟨k + 1, q, by omega, by rw [hst.out], by go_num, rfl⟩
        case measure => simp [intOf]; omega
    · obtain rfl : k = n := by omega
      have ha2 := ha1.drewN q
      go_wp2_with (go_at_call 25; refine (Scale_c A k ca a x _ ha2 (by omega)).mono ?_; rintro e w2 ⟨g, rfl, hown, hb2⟩)
      have ha3 := ha2.below hb2
      have hs := Row.of_own hown
      have hmin := Lib.hid (dotF_min a b k m hla.out hlb.out)
      go_loopw [47] (fun i wr => ∃ j q2 : Nat, j ≤ k ∧ i = .int .i64 j ∧ wr = w2.drewN q2) (fun i _ => k - (intOf i).toNat)
      case atStart => exact ⟨0, 0, by omega, rfl, rfl⟩
      case round =>
        obtain ⟨j, q2, hj, rfl, rfl⟩ := hrel
        by_cases hlt2 : j < k
        · obtain ⟨b1, o1, rfl, _, h1⟩ := ha3.at_ hlt2
          obtain ⟨b2, o2, e2, _, h2⟩ := hs.at_ hlt2
          injection e2 with e2
          injection e2 with e2 e3
          subst e2 e3
          rw [Nat.zero_add] at h2
          have ht : (((gt (scaleF a x) j).n : Int) != ((gt a j * x).n : Int)) = false := by rw [gt_scale]; simp
          have hjk : decide ((k : Int) ≤ (j : Int)) = false := by simp; omega
          go_wp2
          go_quiet ((go_at_call 18; exact quiet_add_left (RefMul_c _ _ _)))
          go_wp2
          go_roundw
          case rel => exact ⟨j + 1, _, by omega, by go_num, rfl⟩
          case measure => simp [intOf]; omega
        · have ha4 := ha3.drewN q2
          have hb4 := ((hb1'.drewN q).below hb2).drewN q2
          go_wp2_with (go_at_call 26; refine (Dot_c A B k m ca cb a b _ ha4 hb4).mono ?_; rintro e w3 ⟨rfl, q3, rfl⟩; rw [hmin.out])
          go_ret
          have hbel := (below_drewN hb1 q).trans (hb2.mono hb1.size)
          first | exact ⟨rfl, below_drewN hbel _⟩ | exact ⟨rfl, below_drewN (below_drewN hbel _) _⟩
set_option maxHeartbeats 1000000 in
set_option maxRecDepth 100000 in
theorem rows_great (A B : Option Addr) (n m ca cb : Nat) (x : F) (w : World) (h : 300 < n ∨ (n ≤ 300 ∧ 300 < m)) (hn : n ≤ 9223372036854775807) (hm : m ≤ 9223372036854775807) :
    Calls Try.prog 4 #[.slice A n ca, .slice B m cb, .int .u8 x.n] w fun e w' => e = .returned (.bool true) ∧ Below w.heap.size w w' := by
  rcases h with h | ⟨h, h2⟩
  all_goals
    go_enter Try.func4, Try.ntmps4
    go_wp2_with (go_at_call 14; refine (alive01_c _).mono ?_; rintro e w1 ⟨rfl, hb1⟩)
    go_ret
    exact ⟨rfl, hb1⟩
theorem walk_GfRows (w : World) (A : Option Addr) (n ca : Nat) (a : List F) (ha : RowIn w A n ca a) (B : Option Addr) (m cb : Nat) (b : List F) (hb : RowIn w B m cb b) (x : F) :
    Calls Try.prog 4 #[.slice A n ca, .slice B m cb, .int .u8 x.n] w fun e w' => e = .returned (.bool true) ∧ Below w.heap.size w w' := by
  by_cases hn : n ≤ 300
  · by_cases hm : m ≤ 300
    · exact rows_small A B n m ca cb a b x w ha.row hb.row hn hm
    · exact rows_great A B n m ca cb x w (.inr ⟨hn, by omega⟩) ha.row.max hb.row.max
  · exact rows_great A B n m ca cb x w (.inl (by omega)) ha.row.max hb.row.max
end Go.Proofs.Ytpghcclgphjflaa
