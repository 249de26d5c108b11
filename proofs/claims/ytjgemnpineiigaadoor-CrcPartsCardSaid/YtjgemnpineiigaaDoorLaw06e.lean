/-
  LAW 06's WALKS, fifth part: CrcParts: it returns true, and writes nothing that was there. No conditions but that the table lies as the program's text lays it.
-/
import Derived.Test.YtjgemnpineiigaaDoorLaw06c
namespace Go.Proofs.YtjgemnpineiigaaDoor
open Go.RowKit
set_option maxRecDepth 100000
set_option linter.unusedVariables false

theorem blk_length {l : List F} {n s k : Nat} (h : l.length = n) : (blk l s k).length = blkLen n s k := by unfold blk blkLen; simp; omega
theorem take_blk (l : List F) (s k : Nat) : l.take (k * s) ++ blk l s k = l.take ((k + 1) * s) := by
  unfold blk
  rw [Nat.add_mul, Nat.one_mul, List.take_add]
theorem sum_nil : sum32 [] = 0 := nt_nt 0
theorem count_all {n s : Nat} (hs : 0 < s) : n ≤ blkCount n s * s := by
  rcases Nat.lt_or_ge (blkCount n s * s) n with h | h
  · exact absurd ((blkCount_lt hs).2 h) (Nat.lt_irrefl _)
  · exact h
/-- how much is left when k blocks are over -/
def leftN (n s k : Nat) : Nat := n - k * s
theorem val_i64' {a b : Int} (h : a = b) : Value.int .i64 a = .int .i64 b := by rw [h]
set_option maxHeartbeats 4000000 in
theorem walk_CrcParts (w : World) (ht : Tab w) (A : Option Addr) (n c : Nat) (l : List F) (ha : RowIn w A n c l) (a : Int) (hwa : (Lit.int .i64 a).wf = true) (sz : Int) (hws : (Lit.int .i64 sz).wf = true) :
    Calls Tryd.prog 7 #[.slice A n c, .int .i64 a, .int .i64 sz] w fun e w' => e = .returned (.bool true) ∧ Below w.heap.size w w' := by
  have hnm := ha.row.max
  by_cases hn : (300 : Int) < n
  · go_enter Tryd.func7, Tryd.ntmps7
    go_wp2_with (go_at_call 8; refine (alive06_c _ ht).mono ?_; rintro e w1 ⟨rfl, hb1⟩)
    go_ret
    exact ⟨rfl, hb1⟩
  obtain ⟨z, hz, ez⟩ := andM a 1023 (by omega)
  have ez2 : bits BinOp.and IntKind.i64 a 1023 = (z : Int) := ez
  obtain ⟨y, hy, ey⟩ := andM sz 63 (by omega)
  have ey2 : bits BinOp.and IntKind.i64 sz 63 = (y : Int) := ey
  clear ez ey
  obtain ⟨u, hu⟩ : ∃ u, u = z % (n + 1) := ⟨_, rfl⟩
  have hu1 : (z : Int) % ((n : Int) + 1) = (u : Int) := by rw [hu]; simp
  have hu2 : (z : Int).tmod ((n : Int) + 1) = (u : Int) := by rw [Int.tmod_eq_emod_of_nonneg (by omega)]; exact hu1
  have hun : u ≤ n := by
    have := Nat.mod_lt z (show 0 < n + 1 by omega)
    omega
  have hn1 : (((n : Int) + 1) == 0) = false := by rw [beq_eq_false_iff_ne]; omega
  clear hu
  obtain ⟨s, hs⟩ : ∃ s, s = y + 1 := ⟨_, rfl⟩
  have HS : Hid (1 + (y : Int) = (s : Int)) := by unfold Hid; omega
  have hs0 : 0 < s := by omega
  have hs64 : s ≤ 64 := by omega
  have HSY := Lib.hid hs
  clear hs
  have hcl := ha.le
  have hcm := ha.max
  unfold maxLen at hcm
  have HLEN := Lib.hid ha.row.len
  have hd1 : ((n : Int) - (u : Int)) = ((n - u : Nat) : Int) := by omega
  obtain ⟨d, hd⟩ : ∃ d, d = n - u := ⟨_, rfl⟩
  rw [← hd] at hd1
  have hd2 : n - u = d := hd.symm
  clear hd
  have hdw : IntKind.i64.wrap (d : Int) = (d : Int) := IntWalk.i64_in _ (by omega)
  have HJ : Hid (∀ W, Calls Tryd.prog 17 #[.int .u32 (sum32 (l.take u)).n, .int .u32 (sum32 (l.drop u)).n, .int .i64 d] W fun e w' => e = .returned (.int .u32 (sum32 l).n) ∧ W = w') := fun W => by
    have h := Join_split (W := W) (l := l.take u) (m := l.drop u) (n := d) (by rw [List.length_drop, HLEN.out]; exact hd2) (by omega)
    rw [List.take_append_drop] at h
    exact h
  have HB : Hid (∀ W, Tab W → RowIn W A n c l → Calls Tryd.prog 14 #[.slice A n c, .int .i64 (1 + (y : Int))] W fun e W' => ∃ v, e = .returned v ∧ W'.ownsRow W.heap.size 22 1 v (blkCount n s) (gs (sums l s (blkCount n s))) ∧ Below W.heap.size W W') := fun W htw hw => by
    rw [HS.out]
    exact Blocks_c A n c s l W htw hw (by omega) hs0 (by omega)
  have hun2 : (u : Int) ≤ n := by omega
  have huc : (u : Int) ≤ c := by omega
  rcases Nat.eq_zero_or_pos n with hn0 | hn0
  · subst hn0
    obtain rfl : l = [] := List.length_eq_zero_iff.1 HLEN.out
    obtain rfl : u = 0 := by omega
    obtain rfl : d = 0 := by omega
    have hbc : blkCount 0 s = 0 := by
      unfold blkCount
      exact Nat.div_eq_of_lt (by omega)
    have HS0 : Hid (∀ A' c' W, Tab W → Calls Tryd.prog 11 #[.slice A' 0 c'] W fun e w' => e = .returned (.int .u32 (sum32 []).n) ∧ W = w') := fun A' c' W hW => Sum_c A' 0 c' [] W hW (Row.nil _ _)
    have HU0 : Hid (∀ A' c' W, Tab W → Calls Tryd.prog 9 #[.int .u32 (sum32 []).n, .slice A' 0 c'] W fun e w' => e = .returned (.int .u32 (sum32 []).n) ∧ W = w') := fun A' c' W hW => Upd_split (l := []) (m := []) hW (Row.nil _ _)
    have HJ0 : Hid (∀ W, Calls Tryd.prog 17 #[.int .u32 (sum32 []).n, .int .u32 (sum32 []).n, .int .i64 0] W fun e w' => e = .returned (.int .u32 (sum32 []).n) ∧ W = w') := fun W => Join_split (l := []) (m := []) (n := 0) rfl (by omega)
    have e0 : ((0 : Int) == ((sum32 []).n : Int)) = true := by rw [sum_nil]; rfl
    have HBC := Lib.hid hbc
    have hw0 : IntKind.i64.wrap 0 = 0 := by decide
    clear hbc HJ
    cases A with
    | none =>
      go_enter Tryd.func7, Tryd.ntmps7
      go_wp2_with (first
        | (go_at_call 8; refine (alive06_c _ ht).mono ?_; rintro e w1 ⟨rfl, hb1⟩; have ha1 := ha.below hb1; have ht1 := ht.below hb1 rfl; have ht1d : Tab w1.drew := ht1)
        | (go_at_call 11; refine (HS0.out _ _ _ ht1).mono ?_; rintro e w' ⟨rfl, rfl⟩))
      go_region_held3 (fun _ => True)
        (trivial)
        (first
          | (go_at_call 11; (with_reducible refine (HS0.out _ _ _ ht1d).mono ?_); rintro e w' ⟨rfl, rfl⟩)
          | (go_at_call 9; (with_reducible refine (HU0.out _ _ _ ht1d).mono ?_); rintro e w' ⟨rfl, rfl⟩)
          | (go_at_call 17; (with_reducible refine (HJ0.out _).mono ?_); rintro e w' ⟨rfl, rfl⟩))
      have ha2 : RowIn w1.drew none 0 c [] := ha1.drewN 1
      have hbd : Below w.heap.size w w1.drew := below_drewN hb1 1
      clear ht1 ha1 hb1
      generalize w1.drew = w2 at *
      go_wp2_with (go_at_call 14; (with_reducible refine (HB.out _ ht1d ha2).mono ?_); rintro e w3 ⟨v3, rfl, hown3, hb3⟩; rw [HBC.out] at hown3; obtain ⟨A3, c3, rfl⟩ := own_shape6 hown3)
      have hB3 := hbd.trans (hb3.mono hbd.size)
      clear hown3 hb3 hbd ha2 ht1d
      go_loop [8, 9, 62] (fun al lf i => al = .int .u32 0 ∧ lf = .int .i64 0 ∧ i = .int .i64 0) (fun _ _ _ => 0)
      case atStart => exact ⟨rfl, rfl, rfl⟩
      case round =>
        obtain ⟨rfl, rfl, rfl⟩ := hrel
        go_wp2
        go_ret
        exact ⟨rfl, hB3⟩
    | some ad =>
      by_cases hc0 : c = 0
      · subst hc0
        go_enter Tryd.func7, Tryd.ntmps7
        go_wp2_with (first
          | (go_at_call 8; refine (alive06_c _ ht).mono ?_; rintro e w1 ⟨rfl, hb1⟩; have ha1 := ha.below hb1; have ht1 := ht.below hb1 rfl; have ht1d : Tab w1.drew := ht1)
          | (go_at_call 11; refine (HS0.out _ _ _ ht1).mono ?_; rintro e w' ⟨rfl, rfl⟩))
        go_region_held3 (fun _ => True)
          (trivial)
          (first
            | (go_at_call 11; (with_reducible refine (HS0.out _ _ _ ht1d).mono ?_); rintro e w' ⟨rfl, rfl⟩)
            | (go_at_call 9; (with_reducible refine (HU0.out _ _ _ ht1d).mono ?_); rintro e w' ⟨rfl, rfl⟩)
            | (go_at_call 17; (with_reducible refine (HJ0.out _).mono ?_); rintro e w' ⟨rfl, rfl⟩))
        have ha2 : RowIn w1.drew (some ad) 0 0 [] := ha1.drewN 1
        have hbd : Below w.heap.size w w1.drew := below_drewN hb1 1
        clear ht1 ha1 hb1
        generalize w1.drew = w2 at *
        go_wp2_with (go_at_call 14; (with_reducible refine (HB.out _ ht1d ha2).mono ?_); rintro e w3 ⟨v3, rfl, hown3, hb3⟩; rw [HBC.out] at hown3; obtain ⟨A3, c3, rfl⟩ := own_shape6 hown3)
        have hB3 := hbd.trans (hb3.mono hbd.size)
        clear hown3 hb3 hbd ha2 ht1d
        go_loop [8, 9, 62] (fun al lf i => al = .int .u32 0 ∧ lf = .int .i64 0 ∧ i = .int .i64 0) (fun _ _ _ => 0)
        case atStart => exact ⟨rfl, rfl, rfl⟩
        case round =>
          obtain ⟨rfl, rfl, rfl⟩ := hrel
          go_wp2
          go_ret
          exact ⟨rfl, hB3⟩
      · have hc1 : ¬ (c - 0 = 0) := by omega
        go_enter Tryd.func7, Tryd.ntmps7
        go_wp2_with (first
          | (go_at_call 8; refine (alive06_c _ ht).mono ?_; rintro e w1 ⟨rfl, hb1⟩; have ha1 := ha.below hb1; have ht1 := ht.below hb1 rfl; have ht1d : Tab w1.drew := ht1)
          | (go_at_call 11; refine (HS0.out _ _ _ ht1).mono ?_; rintro e w' ⟨rfl, rfl⟩))
        go_region_held3 (fun _ => True)
          (trivial)
          (first
            | (go_at_call 11; (with_reducible refine (HS0.out _ _ _ ht1d).mono ?_); rintro e w' ⟨rfl, rfl⟩)
            | (go_at_call 9; (with_reducible refine (HU0.out _ _ _ ht1d).mono ?_); rintro e w' ⟨rfl, rfl⟩)
            | (go_at_call 17; (with_reducible refine (HJ0.out _).mono ?_); rintro e w' ⟨rfl, rfl⟩))
        have ha2 : RowIn w1.drew (some ad) 0 c [] := ha1.drewN 1
        have hbd : Below w.heap.size w w1.drew := below_drewN hb1 1
        clear ht1 ha1 hb1
        generalize w1.drew = w2 at *
        go_wp2_with (go_at_call 14; (with_reducible refine (HB.out _ ht1d ha2).mono ?_); rintro e w3 ⟨v3, rfl, hown3, hb3⟩; rw [HBC.out] at hown3; obtain ⟨A3, c3, rfl⟩ := own_shape6 hown3)
        have hB3 := hbd.trans (hb3.mono hbd.size)
        clear hown3 hb3 hbd ha2 ht1d
        go_loop [8, 9, 62] (fun al lf i => al = .int .u32 0 ∧ lf = .int .i64 0 ∧ i = .int .i64 0) (fun _ _ _ => 0)
        case atStart => exact ⟨rfl, rfl, rfl⟩
        case round =>
          obtain ⟨rfl, rfl, rfl⟩ := hrel
          go_wp2
          go_ret
          exact ⟨rfl, hB3⟩
  · obtain ⟨b, off, rfl, lb, _⟩ := ha.row.2.2 hn0
    obtain ⟨d2, hd2c⟩ : ∃ d2, d2 = c - u := ⟨_, rfl⟩
    have hd2d : c - u = d2 := hd2c.symm
    clear hd2c
    by_cases hcu : d2 = 0
    · subst hcu
      obtain rfl : d = 0 := by omega
      obtain rfl : n = u := by omega
      obtain rfl : n = c := by omega
      have hw0 : IntKind.i64.wrap 0 = 0 := by decide
      have HJ : Hid (∀ W, Calls Tryd.prog 17 #[.int .u32 (sum32 (l.take n)).n, .int .u32 (sum32 (l.drop n)).n, .int .i64 0] W fun e w' => e = .returned (.int .u32 (sum32 l).n) ∧ W = w') := HJ
      have HTL : Hid (∀ W, RowIn W (some ⟨b, off, none⟩) n n l → Row W (some ⟨b, off, none⟩) 0 (l.drop n)) := fun W hW => by
        rw [List.drop_of_length_le (by rw [HLEN.out]; omega)]; exact Row.nil _ _
      go_enter Tryd.func7, Tryd.ntmps7
      go_wp2_with (first
        | (go_at_call 8; refine (alive06_c _ ht).mono ?_; rintro e w1 ⟨rfl, hb1⟩; have ha1 := ha.below hb1; have ht1 := ht.below hb1 rfl)
        | (go_at_call 11; refine (Sum_c _ n n l _ ht1 ha1.row).mono ?_; rintro e w' ⟨rfl, rfl⟩))
      have hhead := ha1.row.take hun
      have htail := HTL.out w1 ha1
      have ht1d : Tab w1.drew := ht1
      have hheadd : Row w1.drew (some ⟨b, off, none⟩) n (l.take n) := hhead
      have htaild : Row w1.drew (some ⟨b, off, none⟩) 0 (l.drop n) := htail
      have HUp := Lib.hid (Upd_split (W := w1.drew) (l := l.take n) (c := 0) ht1d htaild)
      rw [List.take_append_drop] at HUp
      clear hhead htail
      go_region_held3 (fun _ => True)
        (trivial)
        (first
          | (go_at_call 11; (with_reducible refine (Sum_c _ n _ _ _ ht1d hheadd).mono ?_); rintro e w' ⟨rfl, rfl⟩)
          | (go_at_call 11; (with_reducible refine (Sum_c _ 0 _ _ _ ht1d htaild).mono ?_); rintro e w' ⟨rfl, rfl⟩)
          | (go_at_call 9; (with_reducible refine HUp.out.mono ?_); rintro e w' ⟨rfl, rfl⟩)
          | (go_at_call 17; (with_reducible refine (HJ.out _).mono ?_); rintro e w' ⟨rfl, rfl⟩))
      have ha2 : RowIn w1.drew (some ⟨b, off, none⟩) n n l := ha1.drewN 1
      have hbd : Below w.heap.size w w1.drew := below_drewN hb1 1
      clear ht1 ha1 hheadd htaild HUp hb1
      generalize w1.drew = w2 at *
      go_wp2_with (go_at_call 14; (with_reducible refine (HB.out _ ht1d ha2).mono ?_); rintro e w3 ⟨v3, rfl, hown3, hb3⟩; obtain ⟨A3, c3, rfl⟩ := own_shape6 hown3)
      have hr3 := GRow.of_own hown3
      have hB3 := hbd.trans (hb3.mono hbd.size)
      have hNmax := hr3.max
      have HCL := Lib.hid (sums_length l s (blkCount n s))
      have HCA := Lib.hid (count_all (n := n) (s := s) hs0)
      have HCLT := Lib.hid (fun k => blkCount_lt (n := n) (s := s) (k := k) hs0)
      generalize hN : blkCount n s = N at *
      clear hown3 hb3 hbd ha2 ht1d
      go_loop [8, 9, 62] (fun al lf i => ∃ (k f : Nat) (x : G), k ≤ N ∧ i = .int .i64 k ∧ al = .int .u32 x.n ∧ lf = .int .i64 f ∧ Hid (x = sum32 (l.take (k * s)) ∧ f = n - k * s)) (fun _ _ i => N - (intOf i).toNat)
      case atStart => exact ⟨0, n, 0, by omega, rfl, rfl, rfl, by rw [Nat.zero_mul, List.take_zero, sum_nil], by omega⟩
      case round =>
        obtain ⟨k, f, x, hk, rfl, rfl, rfl, hxf⟩ := hrel
        by_cases hkN : k < N
        · have hki : (k : Int) < N := by omega
          obtain ⟨b3, o3, rfl, l3, q3⟩ := hr3.at_ hkN
          have hgg : gg (sums l s N) k = sum32 (blk l s k) := by
            unfold gg sums
            simp [hkN]
          rw [hgg] at q3
          have hkn := (HCLT.out k).1 hkN
          have hbl := blk_length (l := l) (s := s) (k := k) HLEN.out
          have hnx : Hid (sum32 (l.take (k * s) ++ blk l s k) = sum32 (l.take ((k + 1) * s)) ∧ n - (k + 1) * s = f - blkLen n s k) := by
            refine ⟨by rw [take_blk], ?_⟩
            have := hxf.out.2
            unfold blkLen
            rw [Nat.add_mul, Nat.one_mul]
            omega
          have HJ2 : Hid (∀ W, Calls Tryd.prog 17 #[.int .u32 x.n, .int .u32 (sum32 (blk l s k)).n, .int .i64 (blkLen n s k)] W fun e w' => e = .returned (.int .u32 (sum32 (l.take ((k + 1) * s))).n) ∧ W = w') := fun W => by
            have h := Join_split (W := W) (l := l.take (k * s)) (m := blk l s k) hbl (by unfold blkLen; omega)
            rw [hnx.out.1, ← hxf.out.1] at h
            exact h
          have hmin : blkLen n s k = min s f := by unfold blkLen; rw [← hxf.out.2]
          have hf300 : f ≤ 300 := by have := hxf.out.2; omega
          by_cases hsf : s ≤ f
          · have hm1 : blkLen n s k = s := by rw [hmin]; omega
            have h1y : 1 + (y : Int) ≤ f := by rw [HS.out]; omega
            have HJ3 : Hid (∀ W, Calls Tryd.prog 17 #[.int .u32 x.n, .int .u32 (sum32 (blk l s k)).n, .int .i64 (1 + (y : Int))] W fun e w' => e = .returned (.int .u32 (sum32 (l.take ((k + 1) * s))).n) ∧ W = w') := fun W => by
              have h := HJ2.out W
              rw [hm1, ← HS.out] at h
              exact h
            have HM := Lib.hid hm1
            clear hmin hm1 hbl hgg hkn
            go_wp2_with (go_at_call 17; (with_reducible refine (HJ3.out _).mono ?_); rintro e w' ⟨rfl, rfl⟩)
            go_round
            case rel => exact ⟨k + 1, f - s, _, by omega, by go_num, rfl, val_i64' (by have := HS.out; omega), rfl, by have := hnx.out.2; rw [HM.out] at this; exact this.symm⟩
            case measure => simp [intOf]; omega
          · have hm1 : blkLen n s k = f := by rw [hmin]; omega
            have h1y : ¬ 1 + (y : Int) ≤ f := by rw [HS.out]; omega
            have HJ3 : Hid (∀ W, Calls Tryd.prog 17 #[.int .u32 x.n, .int .u32 (sum32 (blk l s k)).n, .int .i64 f] W fun e w' => e = .returned (.int .u32 (sum32 (l.take ((k + 1) * s))).n) ∧ W = w') := fun W => by
              have h := HJ2.out W
              rw [hm1] at h
              exact h
            have HM := Lib.hid hm1
            clear hmin hm1 hbl hgg hkn
            go_wp2_with (go_at_call 17; (with_reducible refine (HJ3.out _).mono ?_); rintro e w' ⟨rfl, rfl⟩)
            go_round
            case rel => exact ⟨k + 1, 0, _, by omega, by go_num, rfl, val_i64' (by omega), rfl, by have := hnx.out.2; rw [HM.out] at this; omega⟩
            case measure => simp [intOf]; omega
        · obtain rfl : k = N := by omega
          have hfin : x = sum32 l ∧ f = 0 := by
            obtain ⟨h1, h2⟩ := hxf.out
            have h3 := HCA.out
            exact ⟨by rw [h1, List.take_of_length_le (by rw [HLEN.out]; exact h3)], by omega⟩
          obtain ⟨rfl, rfl⟩ := hfin
          go_wp2
          go_ret
          exact ⟨rfl, hB3⟩
    · have HTL : Hid (∀ W, RowIn W (some ⟨b, off, none⟩) n c l → Row W (some ⟨b, off + u, none⟩) d (l.drop u)) := fun W hW => by
        have h := hW.row.from_ (p := u) (m := d) (by omega); rw [List.take_of_length_le (by rw [List.length_drop, HLEN.out]; omega)] at h; exact h
      go_enter Tryd.func7, Tryd.ntmps7
      go_wp2_with (first
        | (go_at_call 8; refine (alive06_c _ ht).mono ?_; rintro e w1 ⟨rfl, hb1⟩; have ha1 := ha.below hb1; have ht1 := ht.below hb1 rfl)
        | (go_at_call 11; refine (Sum_c _ n c l _ ht1 ha1.row).mono ?_; rintro e w' ⟨rfl, rfl⟩))
      have hhead := ha1.row.take hun
      have htail := HTL.out w1 ha1
      have ht1d : Tab w1.drew := ht1
      have hheadd : Row w1.drew (some ⟨b, off, none⟩) u (l.take u) := hhead
      have htaild : Row w1.drew (some ⟨b, off + u, none⟩) d (l.drop u) := htail
      have HUp := Lib.hid (Upd_split (W := w1.drew) (l := l.take u) (c := d2) ht1d htaild)
      rw [List.take_append_drop] at HUp
      clear hhead htail
      go_region_held3 (fun _ => True)
        (trivial)
        (first
          | (go_at_call 11; (with_reducible refine (Sum_c _ u _ _ _ ht1d hheadd).mono ?_); rintro e w' ⟨rfl, rfl⟩)
          | (go_at_call 11; (with_reducible refine (Sum_c _ d _ _ _ ht1d htaild).mono ?_); rintro e w' ⟨rfl, rfl⟩)
          | (go_at_call 9; (with_reducible refine HUp.out.mono ?_); rintro e w' ⟨rfl, rfl⟩)
          | (go_at_call 17; (with_reducible refine (HJ.out _).mono ?_); rintro e w' ⟨rfl, rfl⟩))
      have ha2 : RowIn w1.drew (some ⟨b, off, none⟩) n c l := ha1.drewN 1
      have hbd : Below w.heap.size w w1.drew := below_drewN hb1 1
      clear ht1 ha1 hheadd htaild HUp hb1
      generalize w1.drew = w2 at *
      go_wp2_with (go_at_call 14; (with_reducible refine (HB.out _ ht1d ha2).mono ?_); rintro e w3 ⟨v3, rfl, hown3, hb3⟩; obtain ⟨A3, c3, rfl⟩ := own_shape6 hown3)
      have hr3 := GRow.of_own hown3
      have hB3 := hbd.trans (hb3.mono hbd.size)
      have hNmax := hr3.max
      have HCL := Lib.hid (sums_length l s (blkCount n s))
      have HCA := Lib.hid (count_all (n := n) (s := s) hs0)
      have HCLT := Lib.hid (fun k => blkCount_lt (n := n) (s := s) (k := k) hs0)
      generalize hN : blkCount n s = N at *
      clear hown3 hb3 hbd ha2 ht1d
      go_loop [8, 9, 62] (fun al lf i => ∃ (k f : Nat) (x : G), k ≤ N ∧ i = .int .i64 k ∧ al = .int .u32 x.n ∧ lf = .int .i64 f ∧ Hid (x = sum32 (l.take (k * s)) ∧ f = n - k * s)) (fun _ _ i => N - (intOf i).toNat)
      case atStart => exact ⟨0, n, 0, by omega, rfl, rfl, rfl, by rw [Nat.zero_mul, List.take_zero, sum_nil], by omega⟩
      case round =>
        obtain ⟨k, f, x, hk, rfl, rfl, rfl, hxf⟩ := hrel
        by_cases hkN : k < N
        · have hki : (k : Int) < N := by omega
          obtain ⟨b3, o3, rfl, l3, q3⟩ := hr3.at_ hkN
          have hgg : gg (sums l s N) k = sum32 (blk l s k) := by
            unfold gg sums
            simp [hkN]
          rw [hgg] at q3
          have hkn := (HCLT.out k).1 hkN
          have hbl := blk_length (l := l) (s := s) (k := k) HLEN.out
          have hnx : Hid (sum32 (l.take (k * s) ++ blk l s k) = sum32 (l.take ((k + 1) * s)) ∧ n - (k + 1) * s = f - blkLen n s k) := by
            refine ⟨by rw [take_blk], ?_⟩
            have := hxf.out.2
            unfold blkLen
            rw [Nat.add_mul, Nat.one_mul]
            omega
          have HJ2 : Hid (∀ W, Calls Tryd.prog 17 #[.int .u32 x.n, .int .u32 (sum32 (blk l s k)).n, .int .i64 (blkLen n s k)] W fun e w' => e = .returned (.int .u32 (sum32 (l.take ((k + 1) * s))).n) ∧ W = w') := fun W => by
            have h := Join_split (W := W) (l := l.take (k * s)) (m := blk l s k) hbl (by unfold blkLen; omega)
            rw [hnx.out.1, ← hxf.out.1] at h
            exact h
          have hmin : blkLen n s k = min s f := by unfold blkLen; rw [← hxf.out.2]
          have hf300 : f ≤ 300 := by have := hxf.out.2; omega
          by_cases hsf : s ≤ f
          · have hm1 : blkLen n s k = s := by rw [hmin]; omega
            have h1y : 1 + (y : Int) ≤ f := by rw [HS.out]; omega
            have HJ3 : Hid (∀ W, Calls Tryd.prog 17 #[.int .u32 x.n, .int .u32 (sum32 (blk l s k)).n, .int .i64 (1 + (y : Int))] W fun e w' => e = .returned (.int .u32 (sum32 (l.take ((k + 1) * s))).n) ∧ W = w') := fun W => by
              have h := HJ2.out W
              rw [hm1, ← HS.out] at h
              exact h
            have HM := Lib.hid hm1
            clear hmin hm1 hbl hgg hkn
            go_wp2_with (go_at_call 17; (with_reducible refine (HJ3.out _).mono ?_); rintro e w' ⟨rfl, rfl⟩)
            go_round
            case rel => exact ⟨k + 1, f - s, _, by omega, by go_num, rfl, val_i64' (by have := HS.out; omega), rfl, by have := hnx.out.2; rw [HM.out] at this; exact this.symm⟩
            case measure => simp [intOf]; omega
          · have hm1 : blkLen n s k = f := by rw [hmin]; omega
            have h1y : ¬ 1 + (y : Int) ≤ f := by rw [HS.out]; omega
            have HJ3 : Hid (∀ W, Calls Tryd.prog 17 #[.int .u32 x.n, .int .u32 (sum32 (blk l s k)).n, .int .i64 f] W fun e w' => e = .returned (.int .u32 (sum32 (l.take ((k + 1) * s))).n) ∧ W = w') := fun W => by
              have h := HJ2.out W
              rw [hm1] at h
              exact h
            have HM := Lib.hid hm1
            clear hmin hm1 hbl hgg hkn
            go_wp2_with (go_at_call 17; (with_reducible refine (HJ3.out _).mono ?_); rintro e w' ⟨rfl, rfl⟩)
            go_round
            case rel => exact ⟨k + 1, 0, _, by omega, by go_num, rfl, val_i64' (by omega), rfl, by have := hnx.out.2; rw [HM.out] at this; omega⟩
            case measure => simp [intOf]; omega
        · obtain rfl : k = N := by omega
          have hfin : x = sum32 l ∧ f = 0 := by
            obtain ⟨h1, h2⟩ := hxf.out
            have h3 := HCA.out
            exact ⟨by rw [h1, List.take_of_length_le (by rw [HLEN.out]; exact h3)], by omega⟩
          obtain ⟨rfl, rfl⟩ := hfin
          go_wp2
          go_ret
          exact ⟨rfl, hB3⟩
end Go.Proofs.YtjgemnpineiigaaDoor
