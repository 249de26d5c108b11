/-
  LAW 07's WALK: LittleCuts: it returns true, and writes nothing that was there. No conditions.
-/
import Derived.Test.YtekpmpgolpghiaaLaw07
import Derived.Test.YtekpmpgolpghiaaNum
import Derived.Test.YtekpmpgolpghiaaJoin
namespace Go.Proofs.Ytekpmpgolpghiaa
open Go.RowKit
set_option maxRecDepth 100000
set_option linter.unusedVariables false

theorem and255 (x : Int) : ∃ z : Nat, z ≤ 255 ∧ bits .and .i64 x 255 = (z : Int) := by
  have h := andLow x 8 (by decide)
  refine ⟨(x % 2 ^ 8).toNat, by omega, ?_⟩
  rw [show (255 : Int) = ((2 ^ 8 - 1 : Nat) : Int) from rfl, h]
  omega
section
variable {w : World}
/-- a reader of a row that is cut in two, and the rest -/
theorem three7 {w1 : World} {AX AY AZ : Option Addr} {m n r cx cy cz : Nat} {x y z l : List F} {A : Option Addr} {len cap : Nat} (h : RowIn w1 A len cap l) (hX : RowIn w1 AX m cx x) (hY : RowIn w1 AY n cy y) (hZ : RowIn w1 AZ r cz z) (hm : m ≤ 1000000) (hn : n ≤ 1000000) (hr : r ≤ 1000000) (he : x ++ y ++ z = l) (C : Array Value) (hC : C = #[.slice AX m cx, .slice AY n cy, .slice AZ r cz]) :
    Calls Try.prog 25 #[.slice (some ⟨w1.heap.size, 0, none⟩) 3 3] (w1.alloc (.cells C 23)) fun e w' => ∃ g c, e = .returned (.slice (some ⟨g, 0, none⟩) len c) ∧ Row w' (some ⟨g, 0, none⟩) len l ∧ Row w' A len l ∧ Below w1.heap.size w1 w' := by
  subst hC
  have h3 := rows_lit (w := w1) (n := 3) (RA := th3 AX AY AZ) (RL := th3 m n r) (RC := th3 cx cy cz) (R := th3 x y z) (fun i hi => by
    rcases (show i = 0 ∨ i = 1 ∨ i = 2 by omega) with rfl | rfl | rfl
    · exact hX
    · exact hY
    · exact hZ) #[.slice AX m cx, .slice AY n cy, .slice AZ r cz] (fun i hi => by
    rcases (show i = 0 ∨ i = 1 ∨ i = 2 by omega) with rfl | rfl | rfl <;> rfl) 23 (by unfold maxLen; decide)
  refine (Join_c h3 (by omega) (fun i hi => by
    rcases (show i = 0 ∨ i = 1 ∨ i = 2 by omega) with rfl | rfl | rfl <;> simp [th3] <;> omega)).mono ?_
  rintro e w' ⟨g, c, rfl, hown, hb⟩
  rw [lenTo_three, joinTo_three, he] at hown
  have hl : m + n + r = len := by
    rw [← h.row.len, ← he, List.length_append, List.length_append, hX.row.len, hY.row.len, hZ.row.len]
  rw [lenTo_three, hl]
  rw [hl] at hown
  have hb0 : Below w1.heap.size w1 (w1.alloc (.cells #[.slice AX m cx, .slice AY n cy, .slice AZ r cz] 23)) := (Below.refl _ _).alloc (Nat.le_refl _) _
  have hb1 := hb0.trans (hb.mono (by simp))
  exact ⟨g, c, rfl, (own_in hown).row, h.row.below hb1, hb1⟩
end
set_option maxHeartbeats 1000000 in
/-- cut within it -/
theorem cuts_in (w : World) (A : Option Addr) (n cap : Nat) (l : List F) (h : RowIn w A n cap l) (hn : n ≤ 200) (a b : Int) (x y : Nat) (ex : bits BinOp.and IntKind.i64 a 255 = (x : Int)) (ey : bits BinOp.and IntKind.i64 b 255 = (y : Int)) (hxy : x + y ≤ n) :
    Calls Try.prog 5 #[.slice A n cap, .int .i64 a, .int .i64 b] w fun e w' => e = .returned (.bool true) ∧ Below w.heap.size w w' := by
  have hn200 : ¬ (200 : Int) < n := by omega
  have hle : (x : Int) + (y : Int) ≤ (n : Int) := by omega
  have hjoin : Hid ((l.drop 0).take x ++ (l.drop (0 + x)).take y ++ l.drop (0 + x + y) = l) := by
    unfold Hid
    rw [Nat.zero_add, List.drop_zero, ← List.drop_drop, List.append_assoc, List.take_append_drop, List.take_append_drop]
  go_enter Try.func5, Try.ntmps5
  go_wp2_with (first
    | (go_at_call 10; refine (alive07_c _).mono ?_; rintro e w1 ⟨rfl, hb1⟩; have h1 := h.below hb1)
    | (go_at_call 17; refine (Read_c A n cap l _ h1.row (by omega)).mono ?_; rintro e w2 ⟨p, A2, c2, rfl, hR2, hp2, hb2⟩; have h2 := h1.below hb2)
    | (go_at_call 24; with_reducible refine (Bytes_ok hR2 x (by omega) (by omega)).mono ?_; rintro e w3 ⟨A3, c3, rfl, hown3, hR3, hO3⟩)
    | (go_at_call 24; with_reducible refine (Bytes_ok hR3 y (by omega) (by omega)).mono ?_; rintro e w4 ⟨A4, c4, rfl, hown4, hR4, hO4⟩)
    | (go_at_call 23; refine (Rest_ok hR4 (by omega)).mono ?_; rintro e w5 ⟨A5, c5, rfl, hown5, hR5, hO5⟩)
    | (go_at_call 22; refine (Short_c hR5).mono ?_; rintro e _ ⟨rfl, rfl⟩))
  have hp1 := hR2.lt
  have n3 := own_ne hown3 hp1
  have n4 := own_ne hown4 (Nat.lt_of_lt_of_le hp1 hO3.size)
  have r3 := ((own_in hown3).outOf hO4 n3).outOf hO5 n3
  have r4 := (own_in hown4).outOf hO5 n4
  have r5 := own_in hown5
  have hb5 := hb2.trans (((hO3.trans hO4).trans hO5).lowAt hp2 hp1)
  have r := h1.below hb5
  rw [Nat.zero_add] at r4 r5
  have hj := hjoin.out
  rw [Nat.zero_add] at hj
  have hb15 := hb1.trans (hb5.mono hb1.size)
  clear hown3 hown4 hown5 hR2 hR3 hR4 hR5 hO3 hO4 hO5 hb2 h2 h1 hb5 n3 n4
  refine (three7 r r3 r4 r5 (by omega) (by omega) (by omega) hj _ rfl).mono ?_
  rintro e w6 ⟨g6, c6, rfl, hg6, h6, hb6⟩
  have hb16 := hb15.trans (hb6.mono hb15.size)
  clear r r3 r4 r5 hj hb15 hb6 hjoin
  go_wp2_with (go_at_call 14; refine (Same_c _ _ _ _ _ _ _ _ hg6 h6 rfl).mono ?_; rintro e w4 ⟨rfl, q, rfl⟩)
  go_ret
  exact ⟨rfl, below_drewN hb16 q⟩
/-- the number of bytes is that of its lowest and highest four -/
theorem get_two (l : List F) (n K L H : Nat) (hn : l.length = n) (hK : K = min n 8) (hL : L = min K 4) (hH : H = K - 4) :
    bits BinOp.or IntKind.u64 (getL ((l.take L).take 8) : Int) (IntKind.u64.wrap ((getL (((l.drop L).take H).take 8) : Int) * 4294967296)) = ((getL (l.take 8) : Nat) : Int) := by
  have hL4 : L ≤ 4 := by omega
  have hH4 : H ≤ 4 := by omega
  rw [List.take_of_length_le (l := l.take L) (by simp; omega), List.take_of_length_le (l := (l.drop L).take H) (by simp; omega)]
  have e : l.take 8 = l.take L ++ (l.drop L).take H := by
    rw [← List.take_add]
    rcases (show n ≤ 8 ∨ L + H = 8 by omega) with h | h
    · rw [List.take_of_length_le (by omega), List.take_of_length_le (by omega)]
    · rw [h]
  rw [e, getL_append, List.length_take, hn]
  have h1 : getL (l.take L) < 256 ^ 4 := Nat.lt_of_lt_of_le (getL_lt _) (Nat.pow_le_pow_right (by decide) (by simp; omega))
  have h2 : getL ((l.drop L).take H) < 256 ^ 4 := Nat.lt_of_lt_of_le (getL_lt _) (Nat.pow_le_pow_right (by decide) (by simp; omega))
  have e4 : (256 : Nat) ^ 4 = 4294967296 := rfl
  rw [show (4294967296 : Int) = ((4294967296 : Nat) : Int) from rfl, ← Int.natCast_mul, wrap_u64_lt (by unfold two64; omega), bits_or_u64_nat _ _ (by omega) (by omega)]
  have h3 := or_byte (getL (l.take L)) (getL ((l.drop L).take H)) 4 h1
  rw [show 2 ^ (8 * 4) = 4294967296 from rfl] at h3
  rw [h3]
  rcases (show H = 0 ∨ L = 4 by omega) with h | h
  · rw [h, List.take_zero, show getL [] = 0 from rfl, Nat.mul_zero, Nat.mul_zero]
  · rw [show min L n = 4 by omega]
set_option maxHeartbeats 1000000 in
/-- cut behind it -/
theorem cuts_out (w : World) (A : Option Addr) (n cap : Nat) (l : List F) (h : RowIn w A n cap l) (hn : n ≤ 200) (a b : Int) (x y : Nat) (ex : bits BinOp.and IntKind.i64 a 255 = (x : Int)) (ey : bits BinOp.and IntKind.i64 b 255 = (y : Int)) (hx : x ≤ 255) (hy : y ≤ 255) (hxy : n < x + y) :
    Calls Try.prog 5 #[.slice A n cap, .int .i64 a, .int .i64 b] w fun e w' => e = .returned (.bool true) ∧ Below w.heap.size w w' := by
  have hn200 : ¬ (200 : Int) < n := by omega
  have hle : ¬ (x : Int) + (y : Int) ≤ (n : Int) := by omega
  obtain ⟨K, hK⟩ : ∃ K, K = min n 8 := ⟨_, rfl⟩
  obtain ⟨L, hL⟩ : ∃ L, L = min K 4 := ⟨_, rfl⟩
  obtain ⟨H, hH⟩ : ∃ H, H = K - 4 := ⟨_, rfl⟩
  have iK : (if (8 : Int) < n then 8 else (n : Int)) = (K : Int) := by split <;> omega
  have iL : (if (4 : Int) < K then 4 else (K : Int)) = (L : Int) := by split <;> omega
  have iH : (if (K : Int) - 4 < 0 then 0 else (K : Int) - 4) = (H : Int) := by split <;> omega
  have hor := Lib.hid (get_two l n K L H h.row.len hK hL hH)
  have h1L : (L : Int) ≤ (cap : Int) := by have := h.le; omega
  have h2L : (L : Int) + (H : Int) ≤ (cap : Int) := by have := h.le; omega
  have h3L : L + H ≤ n := by omega
  have hK8 : K ≤ 8 := by omega
  have hL4 : L ≤ 4 := by omega
  have hH4 : H ≤ 4 := by omega
  clear hK hL hH
  go_enter Try.func5, Try.ntmps5
  go_wp2_with (first
    | (go_at_call 10; refine (alive07_c _).mono ?_; rintro e w1 ⟨rfl, hb1⟩; have h1 := h.below hb1)
    | (go_at_call 17; refine (Read_c A n cap l _ h1.row (by omega)).mono ?_; rintro e w2 ⟨p, A2, c2, rfl, hR2, hp2, hb2⟩; have h2 := h1.below hb2))
  have key : ∃ r2 : Nat, Calls Try.prog 24 #[.pointer (some ⟨p, 0, none⟩), .int .i64 x] w2 fun e w3 => ∃ A3 c3 k3 at3 sh3, e = .returned (.slice A3 k3 c3) ∧ Rdr w3 p A2 n c2 l at3 sh3 ∧ Hid (sh3 = true ∨ n - at3 < y) ∧ Out p (p + 1) w2 w3 := by
    refine ⟨0, ?_⟩
    by_cases hx : x ≤ n
    · refine (Bytes_ok hR2 x (by omega) (by omega)).mono ?_
      rintro e w3 ⟨A3, c3, rfl, _, hR3, hO3⟩
      exact ⟨A3, c3, _, _, _, rfl, hR3, .inr (by omega), hO3⟩
    · refine (Bytes_no hR2 x (.inr (by omega))).mono ?_
      rintro e w3 ⟨A3, c3, rfl, _, hR3, hO3⟩
      exact ⟨A3, c3, _, _, _, rfl, hR3, .inl rfl, hO3⟩
  obtain ⟨_, key⟩ := key
  refine key.mono ?_
  rintro e w3 ⟨A3, c3, k3, at3, sh3, rfl, hR3, hs3, hO3⟩
  clear key
  go_wp2_with (first
    | (go_at_call 24; refine (Bytes_no hR3 y hs3.out).mono ?_; rintro e w4 ⟨A4, c4, rfl, hown4, hR4, hO4⟩)
    | (go_at_call 23; refine (Rest_no hR4).mono ?_; rintro e w5 ⟨A5, c5, rfl, hown5, hR5, hO5⟩; have hat := hR5.le)
    | (go_at_call 22; refine (Short_c hR5).mono ?_; rintro e _ ⟨rfl, rfl⟩)
    | (go_at_call 21; refine (At_c hR5).mono ?_; rintro e _ ⟨rfl, rfl⟩))
  have hb5 := hb2.trans (((hO3.trans hO4).trans hO5).lowAt hp2 hR2.lt)
  have r := h1.below hb5
  have hb15 := hb1.trans (hb5.mono hb1.size)
  have rL := r.row.take (k := L) (by omega)
  have rH := r.slice (a := L) (M := L + H) (by omega) h3L
  rw [show L + H - L = H by omega] at rH
  have RH := Lib.hid rH
  have HLH : Hid (L + H - L = H) := by unfold Hid; omega
  clear rH hown4 hown5 hR2 hR3 hR4 hR5 hO3 hO4 hO5 hb2 h2 h1 hb5 hs3 h
  have hor2 := hor.out
  have hb64 : (((getL (l.take 8) : Nat) : Int) == bits BinOp.or IntKind.u64 (getL ((l.take L).take 8) : Int) (IntKind.u64.wrap ((getL (((l.drop L).take H).take 8) : Int) * 4294967296))) = true := by rw [hor2]; simp
  clear hor2
  by_cases hcap : cap = L
  · have r2 := RH.out.1 hcap
    have HC := Lib.hid hcap
    have e1 : cap - L = 0 := by omega
    clear hcap
    go_quiet ((go_at_call 15; first | with_reducible exact quiet_left (Get_c A n _ l _ (r.row.drewN _)) | with_reducible exact quiet_left (Get_c A L _ (l.take L) _ (rL.drewN _)) | exact quiet_left (Get_c _ _ _ _ _ (r2.row.drewN _))))
    go_wp2
    go_ret
    exact ⟨rfl, below_drewN hb15 _⟩
  · have r2 := RH.out.2 hcap
    go_quiet ((go_at_call 15; first | with_reducible exact quiet_left (Get_c A n _ l _ (r.row.drewN _)) | with_reducible exact quiet_left (Get_c A L _ (l.take L) _ (rL.drewN _)) | exact quiet_left (Get_c _ _ _ _ _ (r2.row.drewN _))))
    go_wp2
    go_ret
    exact ⟨rfl, below_drewN hb15 _⟩
theorem walk_LittleCuts (w : World) (A : Option Addr) (n cap : Nat) (l : List F) (h : RowIn w A n cap l) (a : Int) (ha : (Lit.int .i64 a).wf = true) (b : Int) (hb : (Lit.int .i64 b).wf = true) :
    Calls Try.prog 5 #[.slice A n cap, .int .i64 a, .int .i64 b] w fun e w' => e = .returned (.bool true) ∧ Below w.heap.size w w' := by
  by_cases hn : n ≤ 200
  · obtain ⟨x, hx, ex⟩ := and255 a
    obtain ⟨y, hy, ey⟩ := and255 b
    by_cases hxy : x + y ≤ n
    · exact cuts_in w A n cap l h hn a b x y ex ey hxy
    · exact cuts_out w A n cap l h hn a b x y ex ey hx hy (by omega)
  · have hn2 : (200 : Int) < n := by omega
    have hnm := h.row.max
    go_enter Try.func5, Try.ntmps5
    go_wp2_with (go_at_call 10; refine (alive07_c _).mono ?_; rintro e w1 ⟨rfl, hb1⟩)
    go_ret
    exact ⟨rfl, hb1⟩
end Go.Proofs.Ytekpmpgolpghiaa
