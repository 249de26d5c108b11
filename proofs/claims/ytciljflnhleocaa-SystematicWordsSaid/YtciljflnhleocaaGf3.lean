/-
  THE CONTRACT OF gf.Dot, and what gf.Scale is. Rows are as great as memory lets them be.
-/
import Derived.Test.YtciljflnhleocaaGf2
import Derived.Test.YtciljflnhleocaaRow
import Derived.Deep.QuietTactic
import Derived.BigQuiet
namespace Go.Proofs.Ytciljflnhleocaa
open Go.RowKit

/-- the sum of products, as far as both go -/
def dotF (a b : List F) : Nat → F
  | 0 => 0
  | k + 1 => dotF a b k + gt a k * gt b k
theorem lt_num (k n : Nat) (h : k < n) : ((k : Int) < (n : Int)) := by omega
theorem quiet_left {P : Program} {f : FuncId} {args : Array Value} {w : World} {n : Nat} {v : Value}
    (h : Calls P f args (w.drewN n) fun e w' => e = .returned v ∧ w.drewN n = w') : Calls P f args (w.drewN n) fun e w'' => e = .returned v ∧ ∃ m, w'' = w.drewN m :=
  h.mono fun _ _ ⟨he, hm⟩ => ⟨he, n, hm.symm⟩
theorem quiet_left0 {P : Program} {f : FuncId} {args : Array Value} {w : World} {v : Value}
    (h : Calls P f args w fun e w' => e = .returned v ∧ w = w') : Calls P f args w fun e w'' => e = .returned v ∧ ∃ m, w'' = w.drewN m :=
  h.mono fun _ _ ⟨he, hm⟩ => ⟨he, 0, hm.symm⟩
theorem quiet_add_left {P : Program} {f : FuncId} {args : Array Value} {w : World} {a n : Nat} {v : Value}
    (h : Calls P f args (w.drewN (a + n)) fun e w' => e = .returned v ∧ w.drewN (a + n) = w') : Calls P f args (w.drewN (a + n)) fun e w'' => e = .returned v ∧ ∃ m, w'' = w.drewN (a + m) :=
  h.mono fun _ _ ⟨he, hm⟩ => ⟨he, n, hm.symm⟩
set_option maxHeartbeats 400000 in
theorem Dot_c (A B : Option Addr) (n m ca cb : Nat) (a b : List F) (w : World) (ha : Row w A n a) (hb : Row w B m b) :
    Calls Try.prog 46 #[.slice A n ca, .slice B m cb] w fun e w' => e = .returned (.int .u8 (dotF a b (min n m)).n) ∧ ∃ q, w' = w.drewN q := by
  have hn := ha.max
  have hm := hb.max
  obtain ⟨r, hr, hrn, hrm⟩ : ∃ r, min n m = r ∧ r ≤ n ∧ r ≤ m := ⟨_, rfl, by omega, by omega⟩
  have hr' : (m < n ∧ r = m) ∨ (n ≤ m ∧ r = n) := by omega
  rw [hr]
  clear hr
  rcases hr' with ⟨hmn, rfl⟩ | ⟨hmn, rfl⟩
  all_goals
    go_enter Try.func46, Try.ntmps46
    go_wp2
    go_loopw [5, 12] (fun p i wr => ∃ k q : Nat, k ≤ r ∧ p = .int .u8 (dotF a b k).n ∧ i = .int .i64 k ∧ wr = w.drewN q) (fun _ i _ => r - (intOf i).toNat)
    case atStart => exact ⟨0, 0, by omega, rfl, rfl, rfl⟩
    case round =>
      obtain ⟨k, q, hk, rfl, rfl, rfl⟩ := hrel
      by_cases hlt : k < r
      · obtain ⟨b1, o1, rfl, _, h1⟩ := ha.at_ (k := k) (by omega)
        obtain ⟨b2, o2, rfl, _, h2⟩ := hb.at_ (k := k) (by omega)
        go_wp2
        go_quiet ((first | (go_at_call 64; exact quiet_add_left (Mul_c _ _ _)) | (go_at_call 63; exact quiet_add_left (Add_c _ _ _))))
        go_wp2
        go_roundw
        case rel => exact ⟨k + 1, _, by omega, rfl, by go_num, rfl⟩
        case measure => simp [intOf]; omega
      · go_wp2
        go_ret
        exact ⟨ret_u8 (by rw [show k = r by omega]), q, rfl⟩
/-- each byte times one -/
def scaleF (l : List F) (x : F) : List F := l.map (· * x)
/-- so far as a row is filled: its first k, and noughts -/
def part (l : List F) (k : Nat) : List F := l.take k ++ List.replicate (l.length - k) 0
theorem part_zero (l : List F) : part l 0 = List.replicate l.length 0 := by simp [part]
theorem part_all (l : List F) : part l l.length = l := by simp [part]
theorem part_length (l : List F) (k : Nat) : (part l k).length = l.length := by simp [part]; omega
theorem part_set (l : List F) (k : Nat) (h : k < l.length) : (part l k).set k (gt l k) = part l (k + 1) := by
  have h1 : (l.take k).length = k := by simp; omega
  unfold part
  rw [List.set_append_right _ _ (by omega), h1, Nat.sub_self, show l.length - k = (l.length - (k + 1)) + 1 by omega, List.replicate_succ, List.set_cons_zero, gt_lt h,
    List.take_succ_eq_append_getElem h, List.append_assoc]
  rfl
theorem cs_set (l : List F) (k : Nat) (x : F) : (cs l).set k (.int .u8 x.n) = cs (l.set k x) := by simp [cs, List.map_set]
theorem cs_replicate (n : Nat) : cs (List.replicate n 0) = List.replicate n (.int .u8 0) := by simp [cs, n_zero]
theorem gt_scale (l : List F) (x : F) (k : Nat) : gt (scaleF l x) k = gt l k * x := by
  rcases Nat.lt_or_ge k l.length with h | h
  · rw [gt_lt (by simpa [scaleF] using h), gt_lt h]; simp [scaleF]
  · rw [gt_ge (by simpa [scaleF] using h), gt_ge h, zero_mul]
theorem scale_length (l : List F) (x : F) : (scaleF l x).length = l.length := by simp [scaleF]

theorem info_u8 : (Try.prog.info? 5).map (fun i => (i.zero, i.size, i.bytes)) = some (some (.int .u8 0), 1, 1) := by kernel_rfl
end Go.Proofs.Ytciljflnhleocaa
