/-
  THE CONTRACTS OF strings.Clone, name's Runes, the document's Rune, Runes. Strings of at most 1000000 bytes. (WRITTEN by wip/gen16c.py.)
-/
import Derived.Test.YtacllgglpjdobaaDoorNamB
import Derived.Laws.RangeAny
namespace Go.Proofs.YtacllgglpjdobaaDoor
open Go.RowKit Go.Shelf
set_option maxRecDepth 1000000
set_option linter.unusedVariables false

theorem Below.iter (w : World) (s : ByteArray) (p : Nat) : Below w.heap.size w (w.iter s p) := (Below.refl _ _).alloc (Nat.le_refl _) _
/-! ### The document's rune -/
def rfr (m : List UInt8) : Int := if dec m = (65533, 1) then -1 else ((dec m).1 : Int)
theorem rfr_ok (m : List UInt8) : (rfr m < 32 ∨ (127 ≤ rfr m ∧ rfr m ≤ 159) ∨ rfr m = 92 ∨ rfr m = 58 ∨ rfr m = 65533) ↔ okc (dec m).1 = false := by
  unfold rfr okc
  rw [decide_eq_false_iff_not, Decidable.not_not]
  split
  · rename_i h
    rw [h]
    exact ⟨fun _ => by decide, fun _ => by decide⟩
  · constructor <;> intro h <;> omega
theorem S_index (l : List UInt8) (i : Nat) (h : i < l.length) : ((S l).get! i).toNat = gb l i := S_get l i
def conA (m : List UInt8) (n : Nat) : Prop := ∀ k, 1 ≤ k → k < n → 128 ≤ gb m k ∧ gb m k ≤ 191
theorem dec_low (m : List UInt8) (h : gb m 0 < 128) : dec m = (gb m 0, 1) := by unfold dec Lib.decodeN; rw [if_pos h]
theorem dec_none (m : List UInt8) (h : 128 ≤ gb m 0) (h2 : gb m 0 < 194 ∨ 244 < gb m 0) : dec m = (65533, 1) := by
  have hb := gb_lt m 0
  unfold dec Lib.decodeN
  rw [if_neg (by omega)]
  split
  · rw [if_neg (by omega)]
  · rw [if_neg (by omega)]
    split
    · rw [if_neg (by omega)]
    · rfl
theorem dec_2 (m : List UInt8) (h : 194 ≤ gb m 0) (h2 : gb m 0 ≤ 223) : ((2 ≤ m.length ∧ 128 ≤ gb m 1 ∧ gb m 1 ≤ 191) → dec m = (64 * (gb m 0 - 192) + gb m 1 - 128, 2)) ∧ (¬ (2 ≤ m.length ∧ 128 ≤ gb m 1 ∧ gb m 1 ≤ 191) → dec m = (65533, 1)) := by
  have hb := gb_lt m 1
  unfold dec Lib.decodeN
  constructor
  · intro h3
    rw [if_neg (by omega), if_pos (by omega), if_pos (by omega)]
    refine Prod.ext ?_ rfl
    dsimp only
    omega
  · intro h3
    rw [if_neg (by omega), if_neg (by omega), if_neg (by omega), if_neg (by omega)]
theorem dec_3 (m : List UInt8) (h : 224 ≤ gb m 0) (h2 : gb m 0 ≤ 239) :
    ((3 ≤ m.length ∧ (128 ≤ gb m 1 ∧ gb m 1 ≤ 191) ∧ (128 ≤ gb m 2 ∧ gb m 2 ≤ 191) ∧ 2048 ≤ 64 * (64 * (gb m 0 - 224) + gb m 1 - 128) + gb m 2 - 128 ∧ ¬ (55296 ≤ 64 * (64 * (gb m 0 - 224) + gb m 1 - 128) + gb m 2 - 128 ∧ 64 * (64 * (gb m 0 - 224) + gb m 1 - 128) + gb m 2 - 128 ≤ 57343)) → dec m = (64 * (64 * (gb m 0 - 224) + gb m 1 - 128) + gb m 2 - 128, 3)) ∧
    (¬ (3 ≤ m.length ∧ (128 ≤ gb m 1 ∧ gb m 1 ≤ 191) ∧ (128 ≤ gb m 2 ∧ gb m 2 ≤ 191) ∧ 2048 ≤ 64 * (64 * (gb m 0 - 224) + gb m 1 - 128) + gb m 2 - 128 ∧ ¬ (55296 ≤ 64 * (64 * (gb m 0 - 224) + gb m 1 - 128) + gb m 2 - 128 ∧ 64 * (64 * (gb m 0 - 224) + gb m 1 - 128) + gb m 2 - 128 ≤ 57343)) → dec m = (65533, 1)) := by
  have hb := gb_lt m 1
  have hb2 := gb_lt m 2
  unfold dec Lib.decodeN
  constructor
  · intro h3
    rw [if_neg (by omega), if_neg (by omega), if_pos (by omega), if_pos (by omega)]
    refine Prod.ext ?_ rfl
    dsimp only
    omega
  · intro h3
    rw [if_neg (by omega), if_neg (by omega)]
    split
    · rw [if_neg (by omega)]
    · rw [if_neg (by omega)]
theorem dec_4 (m : List UInt8) (h : 240 ≤ gb m 0) (h2 : gb m 0 ≤ 244) :
    ((4 ≤ m.length ∧ (128 ≤ gb m 1 ∧ gb m 1 ≤ 191) ∧ (128 ≤ gb m 2 ∧ gb m 2 ≤ 191) ∧ (128 ≤ gb m 3 ∧ gb m 3 ≤ 191) ∧ 65536 ≤ 64 * (64 * (64 * (gb m 0 - 240) + gb m 1 - 128) + gb m 2 - 128) + gb m 3 - 128 ∧ 64 * (64 * (64 * (gb m 0 - 240) + gb m 1 - 128) + gb m 2 - 128) + gb m 3 - 128 ≤ 1114111) → dec m = (64 * (64 * (64 * (gb m 0 - 240) + gb m 1 - 128) + gb m 2 - 128) + gb m 3 - 128, 4)) ∧
    (¬ (4 ≤ m.length ∧ (128 ≤ gb m 1 ∧ gb m 1 ≤ 191) ∧ (128 ≤ gb m 2 ∧ gb m 2 ≤ 191) ∧ (128 ≤ gb m 3 ∧ gb m 3 ≤ 191) ∧ 65536 ≤ 64 * (64 * (64 * (gb m 0 - 240) + gb m 1 - 128) + gb m 2 - 128) + gb m 3 - 128 ∧ 64 * (64 * (64 * (gb m 0 - 240) + gb m 1 - 128) + gb m 2 - 128) + gb m 3 - 128 ≤ 1114111) → dec m = (65533, 1)) := by
  have hb := gb_lt m 1
  have hb2 := gb_lt m 2
  have hb3 := gb_lt m 3
  unfold dec Lib.decodeN
  constructor
  · intro h3
    rw [if_neg (by omega), if_neg (by omega), if_neg (by omega), if_pos (by omega), if_pos (by omega)]
    refine Prod.ext ?_ rfl
    dsimp only
    omega
  · intro h3
    rw [if_neg (by omega), if_neg (by omega), if_neg (by omega)]
    split
    · rw [if_neg (by omega)]
    · rfl
theorem rfr_bad {m : List UInt8} (h : dec m = (65533, 1)) : rfr m = -1 ∧ (dec m).2 = 1 := by
  unfold rfr
  rw [if_pos h, h]
  exact ⟨rfl, rfl⟩
theorem rfr_good {m : List UInt8} {c n : Nat} (h : dec m = (c, n)) (hn : n ≠ 1 ∨ c ≠ 65533) : rfr m = (c : Int) ∧ (dec m).2 = n := by
  unfold rfr
  rw [if_neg (by rw [h]; intro e; injection e with e1 e2; omega), h]
  exact ⟨rfl, rfl⟩
/-- a string's byte -/
theorem byte_S (l : List UInt8) (i : Nat) : ∀ h : i < (S l).size, ((S l)[i]'h).toNat = gb l i := by
  intro h
  rw [← S_get l i]
  congr 1
  have h2 : i < (S l).data.size := h
  show (S l).data[i]'h2 = (S l).data[i]!
  exact (getElem!_pos (S l).data i h2).symm
/-- the number of the first bytes of a rune, without their heads -/
def vvF (m : List UInt8) (s : Nat) : Nat → Nat
  | 0 => gb m 0 - s
  | k + 1 => 64 * vvF m s k + gb m (k + 1) - 128
theorem vvF_lt {m : List UInt8} {s : Nat} (h : gb m 0 < s + 32) : ∀ {k : Nat}, k ≤ 3 → (∀ j, 1 ≤ j → j ≤ k → 128 ≤ gb m j ∧ gb m j ≤ 191) → vvF m s k < 8388608 := by
  intro k hk hc
  have e0 : vvF m s 0 = gb m 0 - s := rfl
  have e1 : vvF m s 1 = 64 * vvF m s 0 + gb m 1 - 128 := rfl
  have e2 : vvF m s 2 = 64 * vvF m s 1 + gb m 2 - 128 := rfl
  have e3 : vvF m s 3 = 64 * vvF m s 2 + gb m 3 - 128 := rfl
  rcases (by omega : k = 0 ∨ k = 1 ∨ k = 2 ∨ k = 3) with rfl | rfl | rfl | rfl
  · omega
  · have := hc 1 (by omega) (by omega)
    omega
  · have := hc 1 (by omega) (by omega)
    have := hc 2 (by omega) (by omega)
    omega
  · have := hc 1 (by omega) (by omega)
    have := hc 2 (by omega) (by omega)
    have := hc 3 (by omega) (by omega)
    omega
theorem vv_next {v d : Nat} (h : 128 ≤ d) : (64 * (v : Int) + (d : Int) - 128) = ((64 * v + d - 128 : Nat) : Int) := by omega
theorem Rune_low (l : List UInt8) (a : Nat) (ha : a < l.length) (hl : l.length ≤ 1000000) (w : World) (h0 : gb l a < 128) :
    Calls Tryd.prog 53 #[.string (S l), .int .i64 (a : Int)] w fun e w' => e = .returned (.tuple #[.int .i64 (gb l a : Nat), .int .i64 1]) ∧ w = w' := by
  have hsz : a < (S l).size := by rw [S_size]; exact ha
  have hby := byte_S l a
  generalize gb l a = c at *
  generalize S l = s at *
  go_enter Tryd.func53, Tryd.ntmps53
  go_wp2
  go_ret2
  exact ⟨rfl, rfl⟩
theorem Rune_none (l : List UInt8) (a : Nat) (ha : a < l.length) (hl : l.length ≤ 1000000) (w : World) (h0 : 128 ≤ gb l a) (h1 : gb l a < 194 ∨ 244 < gb l a) :
    Calls Tryd.prog 53 #[.string (S l), .int .i64 (a : Int)] w fun e w' => e = .returned (.tuple #[.int .i64 (-1), .int .i64 1]) ∧ w = w' := by
  have hsz : a < (S l).size := by rw [S_size]; exact ha
  have hby := byte_S l a
  have hb := gb_lt l a
  generalize gb l a = c at *
  generalize S l = s at *
  have b0 : ¬ c < 128 := by omega
  rcases h1 with h1 | h1
  · have b1 : ¬ 194 ≤ c := by omega
    have b2 : ¬ 224 ≤ c := by omega
    have b3 : ¬ 240 ≤ c := by omega
    go_enter Tryd.func53, Tryd.ntmps53
    go_wp2
    go_ret2
    exact ⟨rfl, rfl⟩
  · have b1 : 194 ≤ c := by omega
    have b2 : ¬ c ≤ 223 := by omega
    have b3 : 224 ≤ c := by omega
    have b4 : ¬ c ≤ 239 := by omega
    have b5 : 240 ≤ c := by omega
    have b6 : ¬ c ≤ 244 := by omega
    go_enter Tryd.func53, Tryd.ntmps53
    go_wp2
    go_ret2
    exact ⟨rfl, rfl⟩

set_option maxHeartbeats 4000000 in
theorem Rune_2 (l : List UInt8) (a : Nat) (ha : a < l.length) (hl : l.length ≤ 1000000) (w : World) (h0 : 194 ≤ gb l a) (h1 : gb l a ≤ 223) :
    Calls Tryd.prog 53 #[.string (S l), .int .i64 (a : Int)] w fun e w' => e = .returned (.tuple #[.int .i64 (rfr (l.drop a)), .int .i64 ((dec (l.drop a)).2 : Nat)]) ∧ w = w' := by
  have hsz : (S l).size = l.length := S_size l
  have HBY := Lib.hid (fun k => byte_S l (a + k))
  have hby := byte_S l a
  have hlen : (l.drop a).length = l.length - a := List.length_drop
  have hm0 : gb (l.drop a) 0 = gb l a := by rw [gb_drop]; rfl
  have HD := Lib.hid (dec_2 (l.drop a) (by rw [hm0]; exact h0) (by rw [hm0]; exact h1))
  have HG := Lib.hid (fun k => (gb_drop l a k).symm)
  obtain ⟨m, hm⟩ : ∃ m, m = l.drop a := ⟨_, rfl⟩
  rw [← hm] at hlen hm0 HD HG ⊢
  have HN : Hid (dec m = (65533, 1) → rfr m = -1 ∧ (dec m).2 = 1) := rfr_bad
  clear hm
  rw [← hm0] at h0 h1 hby
  have HLEN := Lib.hid hlen
  have hvl : ∀ k : Nat, k ≤ 3 → (∀ j, 1 ≤ j → j ≤ k → 128 ≤ gb m j ∧ gb m j ≤ 191) → vvF m 192 k < 8388608 := fun k => vvF_lt (k := k) (by omega)
  have HV := Lib.hid hvl
  have HV0 : Hid (vvF m 192 0 = gb m 0 - 192) := rfl
  have hcb := gb_lt m 0
  obtain ⟨c, hc⟩ : ∃ c, c = gb m 0 := ⟨_, rfl⟩
  rw [← hc] at h0 h1 hby hcb HV0
  have HC := Lib.hid hc
  have hal : a < (S l).size := by rw [hsz]; exact ha
  generalize S l = s at *
  generalize l.length = L at *
  clear hlen hm0 hvl hc
  have b0 : ¬ c < 128 := by omega
  have b1 : 194 ≤ c := by omega
  have b2 : c ≤ 223 := by omega
  by_cases hsh : a + 2 ≤ L
  · have hshi : ¬ (L : Int) < (a : Int) + 2 := by omega
    go_enter Tryd.func53, Tryd.ntmps53
    go_wp2
    go_loopw [9, 10, 11] (fun v i _ wr => ∃ j : Nat, j < 2 ∧ i = .int .i64 ((j + 1 : Nat) : Int) ∧ v = .int .i64 ((vvF m 192 j : Nat) : Int) ∧ Hid (∀ k, 1 ≤ k → k ≤ j → 128 ≤ gb m k ∧ gb m k ≤ 191) ∧ w = wr) (fun _ i _ _ => 6 - (intOf i).toNat)
    case atStart => exact ⟨0, by omega, rfl, by rw [HV0.out]; go_num, fun k h1 h2 => by omega, rfl⟩
    case round =>
      obtain ⟨j, hj, rfl, rfl, hcon, rfl⟩ := hrel
      have hvb := HV.out j (by omega) hcon.out
      by_cases hlt : j + 1 < 2
      · have hlti : ((j + 1 : Nat) : Int) < 2 := by omega
        have hgd := gb_lt m (j + 1)
        have hb2 : ∀ h : ((a : Int) + ((j + 1 : Nat) : Int)).toNat < s.size, (s[((a : Int) + ((j + 1 : Nat) : Int)).toNat]'h).toNat = gb m (j + 1) := by
          have e : ((a : Int) + ((j + 1 : Nat) : Int)).toNat = a + (j + 1) := by omega
          rw [e]
          exact fun h => by rw [HBY.out (j + 1) h, HG.out]
        have hpl : (a : Int) + ((j + 1 : Nat) : Int) < (s.size : Int) := by omega
        have HVN : Hid (vvF m 192 (j + 1) = 64 * vvF m 192 j + gb m (j + 1) - 128) := rfl
        have HX : Hid ((128 ≤ gb m (j + 1) ∧ gb m (j + 1) ≤ 191) → ∀ k, 1 ≤ k → k ≤ j + 1 → 128 ≤ gb m k ∧ gb m k ≤ 191) := fun h k h1 h2 => by
          rcases Nat.lt_or_ge k (j + 1) with h3 | h3
          · exact hcon.out k h1 (by omega)
          · obtain rfl : k = j + 1 := by omega
            exact h
        have HBAD : Hid (¬ (128 ≤ gb m (j + 1) ∧ gb m (j + 1) ≤ 191) → rfr m = -1 ∧ (dec m).2 = 1) := fun h => HN.out (HD.out.2 (by
          intro h9
          apply h
          rcases (by omega : j = 0 ∨ j = 0) with rfl | rfl
          · (simp only [Nat.zero_add]; omega)
          · (simp only [Nat.zero_add]; omega)))
        obtain ⟨d, hd⟩ : ∃ d, d = gb m (j + 1) := ⟨_, rfl⟩
        rw [← hd] at hgd hb2 HVN HX HBAD
        obtain ⟨v, hv⟩ : ∃ v, v = vvF m 192 j := ⟨_, rfl⟩
        rw [← hv] at hvb HVN ⊢
        obtain ⟨j1, hj1⟩ : ∃ j1, j1 = j + 1 := ⟨_, rfl⟩
        rw [← hj1] at hlti hb2 hpl ⊢
        have HJ1 := Lib.hid hj1
        have hj2 : j1 ≤ 3 := by omega
        clear hd hv hj1 hby hal b0 h0 h1
        by_cases hd1 : 128 ≤ d
        · by_cases hd2 : d ≤ 191
          · have e1 : ¬ d < 128 := by omega
            have e2 : ¬ 191 < d := by omega
            have hnx := Lib.hid (HX.out ⟨hd1, hd2⟩)
            have hvn := Lib.hid (vv_next (v := v) hd1)
            clear HX HBAD
            go_wp2
            go_roundw
            case rel => exact ⟨j + 1, by omega, by rw [HJ1.out]; go_num, by rw [HVN.out]; go_num, hnx, by first | exact trivial | rfl⟩
            case measure => simp [intOf]; omega
          · have e1 : ¬ d < 128 := by omega
            have e2 : 191 < d := by omega
            obtain ⟨r1, r2⟩ := HBAD.out (by omega)
            have R1 := Lib.hid r1
            have R2 := Lib.hid r2
            clear r1 r2 HX HBAD
            go_wp2
            go_ret2
            rw [R1.out, R2.out]
            exact ⟨rfl, rfl⟩
        · have e1 : d < 128 := by omega
          obtain ⟨r1, r2⟩ := HBAD.out (by omega)
          have R1 := Lib.hid r1
          have R2 := Lib.hid r2
          clear r1 r2 HX HBAD
          go_wp2
          go_ret2
          rw [R1.out, R2.out]
          exact ⟨rfl, rfl⟩
      · obtain rfl : j = 1 := by omega
        have hlti : ¬ ((1 + 1 : Nat) : Int) < 2 := by omega
        have HE : Hid (vvF m 192 1 = (64 * (gb m 0 - 192) + gb m 1 - 128)) := rfl
        have HCON : Hid ((128 ≤ gb m 1 ∧ gb m 1 ≤ 191)) := ⟨(hcon.out 1 (by omega) (by omega)).1, (hcon.out 1 (by omega) (by omega)).2⟩
        have HLL : Hid (2 ≤ m.length) := by unfold Hid; rw [HLEN.out]; omega
        have HDD : Hid (128 ≤ vvF m 192 1 → rfr m = ((vvF m 192 1 : Nat) : Int) ∧ (dec m).2 = 2) := fun h => rfr_good (by rw [HE.out]; rw [HE.out] at h; exact HD.out.1 (by have := HCON.out; have := HLL.out; omega)) (.inl (by omega))
        have HDB : Hid (¬ (128 ≤ vvF m 192 1) → rfr m = -1 ∧ (dec m).2 = 1) := fun h => HN.out (HD.out.2 (by rw [HE.out] at h; intro h2; have := HC.out; exact h (by omega)))
        obtain ⟨v, hv⟩ : ∃ v, v = vvF m 192 1 := ⟨_, rfl⟩
        rw [← hv] at hvb HDD HDB ⊢
        have HV2 : Hid (v ≤ 2047) := by have := HCON.out; have := HE.out; have := HC.out; unfold Hid; omega
        clear hv HE HCON
        have hv2 : v ≤ 2047 := HV2.out
        by_cases z1 : 128 ≤ v
        · have z2 : ¬ v < 128 := by omega
          have z3 : ¬ 1114111 < v := by omega
          have z4 : ¬ 55296 ≤ v := by omega
          obtain ⟨r1, r2⟩ := HDD.out (by omega)
          have R1 := Lib.hid r1
          have R2 := Lib.hid r2
          clear r1 r2 HDD HDB
          go_wp2
          go_ret2
          rw [R1.out, R2.out]
          exact ⟨rfl, rfl⟩
        · have z2 : v < 128 := by omega
          obtain ⟨r1, r2⟩ := HDB.out (by omega)
          have R1 := Lib.hid r1
          have R2 := Lib.hid r2
          clear r1 r2 HDD HDB
          go_wp2
          go_ret2
          rw [R1.out, R2.out]
          exact ⟨rfl, rfl⟩
  · have hshi : (L : Int) < (a : Int) + 2 := by omega
    obtain ⟨r1, r2⟩ := HN.out (HD.out.2 (by rw [HLEN.out]; omega))
    have R1 := Lib.hid r1
    have R2 := Lib.hid r2
    clear r1 r2
    go_enter Tryd.func53, Tryd.ntmps53
    go_wp2
    go_ret2
    rw [R1.out, R2.out]
    exact ⟨rfl, rfl⟩

set_option maxHeartbeats 4000000 in
theorem Rune_3 (l : List UInt8) (a : Nat) (ha : a < l.length) (hl : l.length ≤ 1000000) (w : World) (h0 : 224 ≤ gb l a) (h1 : gb l a ≤ 239) :
    Calls Tryd.prog 53 #[.string (S l), .int .i64 (a : Int)] w fun e w' => e = .returned (.tuple #[.int .i64 (rfr (l.drop a)), .int .i64 ((dec (l.drop a)).2 : Nat)]) ∧ w = w' := by
  have hsz : (S l).size = l.length := S_size l
  have HBY := Lib.hid (fun k => byte_S l (a + k))
  have hby := byte_S l a
  have hlen : (l.drop a).length = l.length - a := List.length_drop
  have hm0 : gb (l.drop a) 0 = gb l a := by rw [gb_drop]; rfl
  have HD := Lib.hid (dec_3 (l.drop a) (by rw [hm0]; exact h0) (by rw [hm0]; exact h1))
  have HG := Lib.hid (fun k => (gb_drop l a k).symm)
  obtain ⟨m, hm⟩ : ∃ m, m = l.drop a := ⟨_, rfl⟩
  rw [← hm] at hlen hm0 HD HG ⊢
  have HN : Hid (dec m = (65533, 1) → rfr m = -1 ∧ (dec m).2 = 1) := rfr_bad
  clear hm
  rw [← hm0] at h0 h1 hby
  have HLEN := Lib.hid hlen
  have hvl : ∀ k : Nat, k ≤ 3 → (∀ j, 1 ≤ j → j ≤ k → 128 ≤ gb m j ∧ gb m j ≤ 191) → vvF m 224 k < 8388608 := fun k => vvF_lt (k := k) (by omega)
  have HV := Lib.hid hvl
  have HV0 : Hid (vvF m 224 0 = gb m 0 - 224) := rfl
  have hcb := gb_lt m 0
  obtain ⟨c, hc⟩ : ∃ c, c = gb m 0 := ⟨_, rfl⟩
  rw [← hc] at h0 h1 hby hcb HV0
  have HC := Lib.hid hc
  have hal : a < (S l).size := by rw [hsz]; exact ha
  generalize S l = s at *
  generalize l.length = L at *
  clear hlen hm0 hvl hc
  have b0 : ¬ c < 128 := by omega
  have b1 : 194 ≤ c := by omega
  have b2 : ¬ c ≤ 223 := by omega
  have b3 : 224 ≤ c := by omega
  have b4 : c ≤ 239 := by omega
  by_cases hsh : a + 3 ≤ L
  · have hshi : ¬ (L : Int) < (a : Int) + 3 := by omega
    go_enter Tryd.func53, Tryd.ntmps53
    go_wp2
    go_loopw [9, 10, 11] (fun v i _ wr => ∃ j : Nat, j < 3 ∧ i = .int .i64 ((j + 1 : Nat) : Int) ∧ v = .int .i64 ((vvF m 224 j : Nat) : Int) ∧ Hid (∀ k, 1 ≤ k → k ≤ j → 128 ≤ gb m k ∧ gb m k ≤ 191) ∧ w = wr) (fun _ i _ _ => 6 - (intOf i).toNat)
    case atStart => exact ⟨0, by omega, rfl, by rw [HV0.out]; go_num, fun k h1 h2 => by omega, rfl⟩
    case round =>
      obtain ⟨j, hj, rfl, rfl, hcon, rfl⟩ := hrel
      have hvb := HV.out j (by omega) hcon.out
      by_cases hlt : j + 1 < 3
      · have hlti : ((j + 1 : Nat) : Int) < 3 := by omega
        have hgd := gb_lt m (j + 1)
        have hb2 : ∀ h : ((a : Int) + ((j + 1 : Nat) : Int)).toNat < s.size, (s[((a : Int) + ((j + 1 : Nat) : Int)).toNat]'h).toNat = gb m (j + 1) := by
          have e : ((a : Int) + ((j + 1 : Nat) : Int)).toNat = a + (j + 1) := by omega
          rw [e]
          exact fun h => by rw [HBY.out (j + 1) h, HG.out]
        have hpl : (a : Int) + ((j + 1 : Nat) : Int) < (s.size : Int) := by omega
        have HVN : Hid (vvF m 224 (j + 1) = 64 * vvF m 224 j + gb m (j + 1) - 128) := rfl
        have HX : Hid ((128 ≤ gb m (j + 1) ∧ gb m (j + 1) ≤ 191) → ∀ k, 1 ≤ k → k ≤ j + 1 → 128 ≤ gb m k ∧ gb m k ≤ 191) := fun h k h1 h2 => by
          rcases Nat.lt_or_ge k (j + 1) with h3 | h3
          · exact hcon.out k h1 (by omega)
          · obtain rfl : k = j + 1 := by omega
            exact h
        have HBAD : Hid (¬ (128 ≤ gb m (j + 1) ∧ gb m (j + 1) ≤ 191) → rfr m = -1 ∧ (dec m).2 = 1) := fun h => HN.out (HD.out.2 (by
          intro h9
          apply h
          rcases (by omega : j = 0 ∨ j = 1) with rfl | rfl
          · (simp only [Nat.zero_add]; omega)
          · (simp only [Nat.reduceAdd]; omega)))
        obtain ⟨d, hd⟩ : ∃ d, d = gb m (j + 1) := ⟨_, rfl⟩
        rw [← hd] at hgd hb2 HVN HX HBAD
        obtain ⟨v, hv⟩ : ∃ v, v = vvF m 224 j := ⟨_, rfl⟩
        rw [← hv] at hvb HVN ⊢
        obtain ⟨j1, hj1⟩ : ∃ j1, j1 = j + 1 := ⟨_, rfl⟩
        rw [← hj1] at hlti hb2 hpl ⊢
        have HJ1 := Lib.hid hj1
        have hj2 : j1 ≤ 3 := by omega
        clear hd hv hj1 hby hal b0 h0 h1
        by_cases hd1 : 128 ≤ d
        · by_cases hd2 : d ≤ 191
          · have e1 : ¬ d < 128 := by omega
            have e2 : ¬ 191 < d := by omega
            have hnx := Lib.hid (HX.out ⟨hd1, hd2⟩)
            have hvn := Lib.hid (vv_next (v := v) hd1)
            clear HX HBAD
            go_wp2
            go_roundw
            case rel => exact ⟨j + 1, by omega, by rw [HJ1.out]; go_num, by rw [HVN.out]; go_num, hnx, by first | exact trivial | rfl⟩
            case measure => simp [intOf]; omega
          · have e1 : ¬ d < 128 := by omega
            have e2 : 191 < d := by omega
            obtain ⟨r1, r2⟩ := HBAD.out (by omega)
            have R1 := Lib.hid r1
            have R2 := Lib.hid r2
            clear r1 r2 HX HBAD
            go_wp2
            go_ret2
            rw [R1.out, R2.out]
            exact ⟨rfl, rfl⟩
        · have e1 : d < 128 := by omega
          obtain ⟨r1, r2⟩ := HBAD.out (by omega)
          have R1 := Lib.hid r1
          have R2 := Lib.hid r2
          clear r1 r2 HX HBAD
          go_wp2
          go_ret2
          rw [R1.out, R2.out]
          exact ⟨rfl, rfl⟩
      · obtain rfl : j = 2 := by omega
        have hlti : ¬ ((2 + 1 : Nat) : Int) < 3 := by omega
        have HE : Hid (vvF m 224 2 = (64 * (64 * (gb m 0 - 224) + gb m 1 - 128) + gb m 2 - 128)) := rfl
        have HCON : Hid ((128 ≤ gb m 1 ∧ gb m 1 ≤ 191) ∧ (128 ≤ gb m 2 ∧ gb m 2 ≤ 191)) := ⟨hcon.out 1 (by omega) (by omega), hcon.out 2 (by omega) (by omega)⟩
        have HLL : Hid (3 ≤ m.length) := by unfold Hid; rw [HLEN.out]; omega
        have HDD : Hid (2048 ≤ vvF m 224 2 ∧ ¬ (55296 ≤ vvF m 224 2 ∧ vvF m 224 2 ≤ 57343) → rfr m = ((vvF m 224 2 : Nat) : Int) ∧ (dec m).2 = 3) := fun h => rfr_good (by rw [HE.out]; rw [HE.out] at h; exact HD.out.1 (by have := HCON.out; have := HLL.out; omega)) (.inl (by omega))
        have HDB : Hid (¬ (2048 ≤ vvF m 224 2 ∧ ¬ (55296 ≤ vvF m 224 2 ∧ vvF m 224 2 ≤ 57343)) → rfr m = -1 ∧ (dec m).2 = 1) := fun h => HN.out (HD.out.2 (by rw [HE.out] at h; intro h2; have := HC.out; exact h (by omega)))
        obtain ⟨v, hv⟩ : ∃ v, v = vvF m 224 2 := ⟨_, rfl⟩
        rw [← hv] at hvb HDD HDB ⊢
        have HV2 : Hid (¬ 1114111 < v) := by have := HCON.out; have := HE.out; have := HC.out; unfold Hid; omega
        clear hv HE HCON
        by_cases z1 : v < 2048
        · have z2 : v < 2048 := z1
          obtain ⟨r1, r2⟩ := HDB.out (by omega)
          have R1 := Lib.hid r1
          have R2 := Lib.hid r2
          clear r1 r2 HDD HDB
          go_wp2
          go_ret2
          rw [R1.out, R2.out]
          exact ⟨rfl, rfl⟩
        · by_cases z3 : 55296 ≤ v
          · by_cases z4 : v ≤ 57343
            · have z5 : ¬ 1114111 < v := by omega
              obtain ⟨r1, r2⟩ := HDB.out (by omega)
              have R1 := Lib.hid r1
              have R2 := Lib.hid r2
              clear r1 r2 HDD HDB
              go_wp2
              go_ret2
              rw [R1.out, R2.out]
              exact ⟨rfl, rfl⟩
            · have z5 : ¬ 1114111 < v := HV2.out
              obtain ⟨r1, r2⟩ := HDD.out (by omega)
              have R1 := Lib.hid r1
              have R2 := Lib.hid r2
              clear r1 r2 HDD HDB
              go_wp2
              go_ret2
              rw [R1.out, R2.out]
              exact ⟨rfl, rfl⟩
          · have z5 : ¬ 1114111 < v := by omega
            obtain ⟨r1, r2⟩ := HDD.out (by omega)
            have R1 := Lib.hid r1
            have R2 := Lib.hid r2
            clear r1 r2 HDD HDB
            go_wp2
            go_ret2
            rw [R1.out, R2.out]
            exact ⟨rfl, rfl⟩
  · have hshi : (L : Int) < (a : Int) + 3 := by omega
    obtain ⟨r1, r2⟩ := HN.out (HD.out.2 (by rw [HLEN.out]; omega))
    have R1 := Lib.hid r1
    have R2 := Lib.hid r2
    clear r1 r2
    go_enter Tryd.func53, Tryd.ntmps53
    go_wp2
    go_ret2
    rw [R1.out, R2.out]
    exact ⟨rfl, rfl⟩

set_option maxHeartbeats 4000000 in
theorem Rune_4 (l : List UInt8) (a : Nat) (ha : a < l.length) (hl : l.length ≤ 1000000) (w : World) (h0 : 240 ≤ gb l a) (h1 : gb l a ≤ 244) :
    Calls Tryd.prog 53 #[.string (S l), .int .i64 (a : Int)] w fun e w' => e = .returned (.tuple #[.int .i64 (rfr (l.drop a)), .int .i64 ((dec (l.drop a)).2 : Nat)]) ∧ w = w' := by
  have hsz : (S l).size = l.length := S_size l
  have HBY := Lib.hid (fun k => byte_S l (a + k))
  have hby := byte_S l a
  have hlen : (l.drop a).length = l.length - a := List.length_drop
  have hm0 : gb (l.drop a) 0 = gb l a := by rw [gb_drop]; rfl
  have HD := Lib.hid (dec_4 (l.drop a) (by rw [hm0]; exact h0) (by rw [hm0]; exact h1))
  have HG := Lib.hid (fun k => (gb_drop l a k).symm)
  obtain ⟨m, hm⟩ : ∃ m, m = l.drop a := ⟨_, rfl⟩
  rw [← hm] at hlen hm0 HD HG ⊢
  have HN : Hid (dec m = (65533, 1) → rfr m = -1 ∧ (dec m).2 = 1) := rfr_bad
  clear hm
  rw [← hm0] at h0 h1 hby
  have HLEN := Lib.hid hlen
  have hvl : ∀ k : Nat, k ≤ 3 → (∀ j, 1 ≤ j → j ≤ k → 128 ≤ gb m j ∧ gb m j ≤ 191) → vvF m 240 k < 8388608 := fun k => vvF_lt (k := k) (by omega)
  have HV := Lib.hid hvl
  have HV0 : Hid (vvF m 240 0 = gb m 0 - 240) := rfl
  have hcb := gb_lt m 0
  obtain ⟨c, hc⟩ : ∃ c, c = gb m 0 := ⟨_, rfl⟩
  rw [← hc] at h0 h1 hby hcb HV0
  have HC := Lib.hid hc
  have hal : a < (S l).size := by rw [hsz]; exact ha
  generalize S l = s at *
  generalize l.length = L at *
  clear hlen hm0 hvl hc
  have b0 : ¬ c < 128 := by omega
  have b1 : 194 ≤ c := by omega
  have b2 : ¬ c ≤ 223 := by omega
  have b3 : 224 ≤ c := by omega
  have b4 : ¬ c ≤ 239 := by omega
  have b5 : 240 ≤ c := by omega
  have b6 : c ≤ 244 := by omega
  by_cases hsh : a + 4 ≤ L
  · have hshi : ¬ (L : Int) < (a : Int) + 4 := by omega
    go_enter Tryd.func53, Tryd.ntmps53
    go_wp2
    go_loopw [9, 10, 11] (fun v i _ wr => ∃ j : Nat, j < 4 ∧ i = .int .i64 ((j + 1 : Nat) : Int) ∧ v = .int .i64 ((vvF m 240 j : Nat) : Int) ∧ Hid (∀ k, 1 ≤ k → k ≤ j → 128 ≤ gb m k ∧ gb m k ≤ 191) ∧ w = wr) (fun _ i _ _ => 6 - (intOf i).toNat)
    case atStart => exact ⟨0, by omega, rfl, by rw [HV0.out]; go_num, fun k h1 h2 => by omega, rfl⟩
    case round =>
      obtain ⟨j, hj, rfl, rfl, hcon, rfl⟩ := hrel
      have hvb := HV.out j (by omega) hcon.out
      by_cases hlt : j + 1 < 4
      · have hlti : ((j + 1 : Nat) : Int) < 4 := by omega
        have hgd := gb_lt m (j + 1)
        have hb2 : ∀ h : ((a : Int) + ((j + 1 : Nat) : Int)).toNat < s.size, (s[((a : Int) + ((j + 1 : Nat) : Int)).toNat]'h).toNat = gb m (j + 1) := by
          have e : ((a : Int) + ((j + 1 : Nat) : Int)).toNat = a + (j + 1) := by omega
          rw [e]
          exact fun h => by rw [HBY.out (j + 1) h, HG.out]
        have hpl : (a : Int) + ((j + 1 : Nat) : Int) < (s.size : Int) := by omega
        have HVN : Hid (vvF m 240 (j + 1) = 64 * vvF m 240 j + gb m (j + 1) - 128) := rfl
        have HX : Hid ((128 ≤ gb m (j + 1) ∧ gb m (j + 1) ≤ 191) → ∀ k, 1 ≤ k → k ≤ j + 1 → 128 ≤ gb m k ∧ gb m k ≤ 191) := fun h k h1 h2 => by
          rcases Nat.lt_or_ge k (j + 1) with h3 | h3
          · exact hcon.out k h1 (by omega)
          · obtain rfl : k = j + 1 := by omega
            exact h
        have HBAD : Hid (¬ (128 ≤ gb m (j + 1) ∧ gb m (j + 1) ≤ 191) → rfr m = -1 ∧ (dec m).2 = 1) := fun h => HN.out (HD.out.2 (by
          intro h9
          apply h
          rcases (by omega : j = 0 ∨ j = 1 ∨ j = 2) with rfl | rfl | rfl
          · (simp only [Nat.zero_add]; omega)
          · (simp only [Nat.reduceAdd]; omega)
          · (simp only [Nat.reduceAdd]; omega)))
        obtain ⟨d, hd⟩ : ∃ d, d = gb m (j + 1) := ⟨_, rfl⟩
        rw [← hd] at hgd hb2 HVN HX HBAD
        obtain ⟨v, hv⟩ : ∃ v, v = vvF m 240 j := ⟨_, rfl⟩
        rw [← hv] at hvb HVN ⊢
        obtain ⟨j1, hj1⟩ : ∃ j1, j1 = j + 1 := ⟨_, rfl⟩
        rw [← hj1] at hlti hb2 hpl ⊢
        have HJ1 := Lib.hid hj1
        have hj2 : j1 ≤ 3 := by omega
        clear hd hv hj1 hby hal b0 h0 h1
        by_cases hd1 : 128 ≤ d
        · by_cases hd2 : d ≤ 191
          · have e1 : ¬ d < 128 := by omega
            have e2 : ¬ 191 < d := by omega
            have hnx := Lib.hid (HX.out ⟨hd1, hd2⟩)
            have hvn := Lib.hid (vv_next (v := v) hd1)
            clear HX HBAD
            go_wp2
            go_roundw
            case rel => exact ⟨j + 1, by omega, by rw [HJ1.out]; go_num, by rw [HVN.out]; go_num, hnx, by first | exact trivial | rfl⟩
            case measure => simp [intOf]; omega
          · have e1 : ¬ d < 128 := by omega
            have e2 : 191 < d := by omega
            obtain ⟨r1, r2⟩ := HBAD.out (by omega)
            have R1 := Lib.hid r1
            have R2 := Lib.hid r2
            clear r1 r2 HX HBAD
            go_wp2
            go_ret2
            rw [R1.out, R2.out]
            exact ⟨rfl, rfl⟩
        · have e1 : d < 128 := by omega
          obtain ⟨r1, r2⟩ := HBAD.out (by omega)
          have R1 := Lib.hid r1
          have R2 := Lib.hid r2
          clear r1 r2 HX HBAD
          go_wp2
          go_ret2
          rw [R1.out, R2.out]
          exact ⟨rfl, rfl⟩
      · obtain rfl : j = 3 := by omega
        have hlti : ¬ ((3 + 1 : Nat) : Int) < 4 := by omega
        have HE : Hid (vvF m 240 3 = (64 * (64 * (64 * (gb m 0 - 240) + gb m 1 - 128) + gb m 2 - 128) + gb m 3 - 128)) := rfl
        have HCON : Hid ((128 ≤ gb m 1 ∧ gb m 1 ≤ 191) ∧ (128 ≤ gb m 2 ∧ gb m 2 ≤ 191) ∧ (128 ≤ gb m 3 ∧ gb m 3 ≤ 191)) := ⟨hcon.out 1 (by omega) (by omega), hcon.out 2 (by omega) (by omega), hcon.out 3 (by omega) (by omega)⟩
        have HLL : Hid (4 ≤ m.length) := by unfold Hid; rw [HLEN.out]; omega
        have HDD : Hid (65536 ≤ vvF m 240 3 ∧ vvF m 240 3 ≤ 1114111 → rfr m = ((vvF m 240 3 : Nat) : Int) ∧ (dec m).2 = 4) := fun h => rfr_good (by rw [HE.out]; rw [HE.out] at h; exact HD.out.1 (by have := HCON.out; have := HLL.out; omega)) (.inl (by omega))
        have HDB : Hid (¬ (65536 ≤ vvF m 240 3 ∧ vvF m 240 3 ≤ 1114111) → rfr m = -1 ∧ (dec m).2 = 1) := fun h => HN.out (HD.out.2 (by rw [HE.out] at h; intro h2; have := HC.out; exact h (by omega)))
        obtain ⟨v, hv⟩ : ∃ v, v = vvF m 240 3 := ⟨_, rfl⟩
        rw [← hv] at hvb HDD HDB ⊢
        clear hv HE HCON
        by_cases z1 : v < 65536
        · have z2 : v < 65536 := z1
          obtain ⟨r1, r2⟩ := HDB.out (by omega)
          have R1 := Lib.hid r1
          have R2 := Lib.hid r2
          clear r1 r2 HDD HDB
          go_wp2
          go_ret2
          rw [R1.out, R2.out]
          exact ⟨rfl, rfl⟩
        · by_cases z3 : 1114111 < v
          · have z4 : 1114111 < v := z3
            obtain ⟨r1, r2⟩ := HDB.out (by omega)
            have R1 := Lib.hid r1
            have R2 := Lib.hid r2
            clear r1 r2 HDD HDB
            go_wp2
            go_ret2
            rw [R1.out, R2.out]
            exact ⟨rfl, rfl⟩
          · have z4 : 55296 ≤ v := by omega
            have z5 : ¬ v ≤ 57343 := by omega
            obtain ⟨r1, r2⟩ := HDD.out (by omega)
            have R1 := Lib.hid r1
            have R2 := Lib.hid r2
            clear r1 r2 HDD HDB
            go_wp2
            go_ret2
            rw [R1.out, R2.out]
            exact ⟨rfl, rfl⟩
  · have hshi : (L : Int) < (a : Int) + 4 := by omega
    obtain ⟨r1, r2⟩ := HN.out (HD.out.2 (by rw [HLEN.out]; omega))
    have R1 := Lib.hid r1
    have R2 := Lib.hid r2
    clear r1 r2
    go_enter Tryd.func53, Tryd.ntmps53
    go_wp2
    go_ret2
    rw [R1.out, R2.out]
    exact ⟨rfl, rfl⟩

/-- the document's rune: -1, 1: no UTF-8 -/
theorem Rune_c (l : List UInt8) (a : Nat) (ha : a < l.length) (hl : l.length ≤ 1000000) (w : World) :
    Calls Tryd.prog 53 #[.string (S l), .int .i64 (a : Int)] w fun e w' => e = .returned (.tuple #[.int .i64 (rfr (l.drop a)), .int .i64 ((dec (l.drop a)).2 : Nat)]) ∧ w = w' := by
  have hm0 : gb (l.drop a) 0 = gb l a := by rw [gb_drop]; rfl
  have hcs : gb l a < 128 ∨ (128 ≤ gb l a ∧ (gb l a < 194 ∨ 244 < gb l a)) ∨ (194 ≤ gb l a ∧ gb l a ≤ 223) ∨ (224 ≤ gb l a ∧ gb l a ≤ 239) ∨ (240 ≤ gb l a ∧ gb l a ≤ 244) := by omega
  rcases hcs with h | ⟨h1, h2⟩ | ⟨h1, h2⟩ | ⟨h1, h2⟩ | ⟨h1, h2⟩
  · obtain ⟨e1, e2⟩ := rfr_good (dec_low (l.drop a) (by rw [hm0]; exact h)) (.inr (by omega))
    rw [e1, e2, hm0]
    exact Rune_low l a ha hl w h
  · obtain ⟨e1, e2⟩ := rfr_bad (dec_none (l.drop a) (by rw [hm0]; exact h1) (by rw [hm0]; exact h2))
    rw [e1, e2]
    exact Rune_none l a ha hl w h1 h2
  · exact Rune_2 l a ha hl w h1 h2
  · exact Rune_3 l a ha hl w h1 h2
  · exact Rune_4 l a ha hl w h1 h2
end Go.Proofs.YtacllgglpjdobaaDoor
