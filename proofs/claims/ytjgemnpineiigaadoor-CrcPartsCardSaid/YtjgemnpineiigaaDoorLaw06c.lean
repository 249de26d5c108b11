/-
  LAW 06's WALKS, third part: CrcBursts: it returns true, and writes nothing that was there. No conditions but that the table lies as the program's text lays it.
-/
import Derived.Test.YtjgemnpineiigaaDoorLaw06b
import Derived.Test.YtjgemnpineiigaaDoorCrcB
import Derived.Deep.RegionWith
namespace Go.Proofs.YtjgemnpineiigaaDoor
open Go.RowKit
set_option maxRecDepth 100000
set_option linter.unusedVariables false

theorem andM (x : Int) (m : Nat) (hm : m < 1048576) : ∃ z : Nat, z ≤ m ∧ bits .and .i64 x (m : Int) = (z : Int) := by
  have h1 : (BitVec.ofInt 64 (m : Int)).toNat = m := by
    rw [BitVec.ofInt_natCast, BitVec.toNat_ofNat]
    exact Nat.mod_eq_of_lt (by omega)
  have hx : (BitVec.ofInt 64 x &&& BitVec.ofInt 64 (m : Int)).toNat ≤ m := by
    rw [BitVec.toNat_and, h1]
    exact Nat.and_le_right
  refine ⟨(BitVec.ofInt 64 x &&& BitVec.ofInt 64 (m : Int)).toNat, hx, ?_⟩
  show IntKind.i64.wrap ((BitVec.ofInt 64 x &&& BitVec.ofInt 64 (m : Int)).toNat : Int) = _
  rw [IntKind.wrap_i64]
  omega
set_option maxHeartbeats 1000000 in
theorem Copy6_c (A : Option Addr) (n c : Nat) (l : List F) (w : World) (h : Row w A n l) (hn : n ≤ 1048576) :
    Calls Tryd.prog 19 #[.slice A n c] w fun e w' => ∃ g c', e = .returned (.slice (some ⟨g, 0, none⟩) n c') ∧ w'.ownsRow w.heap.size 5 1 (.slice (some ⟨g, 0, none⟩) n c') n (cs l) ∧ Below w.heap.size w w' := by
  obtain ⟨i0, hi, hz0, hz1, hz2⟩ := info_parts info_u8c
  cases A with
  | none =>
    have e1 : n = 0 := by
      rcases Nat.eq_zero_or_pos n with e | e
      · exact e
      · obtain ⟨b, o, e2, _⟩ := h.2.2 e
        cases e2
    subst e1
    obtain rfl : l = [] := List.length_eq_zero_iff.1 h.len
    go_enter Tryd.func19, Tryd.ntmps19
    go_wp2
    go_ret
    exact ⟨_, 0, rfl, World.ownsRow_made w #[] 0 (Nat.le_refl _) (Nat.zero_le _) rfl, (Below.refl _ _).alloc (Nat.le_refl _) _⟩
  | some ad =>
    have hl := h.len
    have hm := h.max
    have HC := Lib.hid (row_cells7 (h.alloc (.cells #[] 5)))
    have HL := Lib.hid hl
    clear hl
    go_enter Tryd.func19, Tryd.ntmps19
    go_wp2_with (at_builtin; refine wpList_append_own _ rfl _ _ 23 rfl w.heap.size 5 i0 (.int .u8 0) 1 1 Tryd.underlying23 hi hz0 hz1 hz2 rfl (by decide) _ _ _ rfl (World.ownsRow_made w #[] 0 (Nat.le_refl _) (Nat.zero_le _) rfl) ad n c (cs l) rfl (by rw [cs_length, HL.out, Nat.mul_one]) HC.out (cs_one l) (by unfold maxLen; omega) (by omega) (by simp) ?_; intro v' w1 hown hgrow hnil)
    have h2 := hown.2
    rw [Nat.zero_add] at h2 hown
    rcases h2 with ⟨hv, _⟩ | ⟨g, c', cur, hv, _⟩
    · have := (hnil.1 hv).1
      injection this with this
      cases this
    · subst hv
      go_wp2
      go_ret
      refine ⟨g, c', rfl, hown, ?_⟩
      exact ((Below.refl _ w).alloc (Nat.le_refl _) _).grown hgrow (by simp) (fun k hk => by cases hk; exact Nat.le_refl _)
theorem own_len6 {w : World} {base n : Nat} {v : Value} {l : List F} {e : TypeId} (h : w.ownsRow base e 1 v n (cs l)) : l.length = n := by
  have := h.1
  rw [cs_length] at this
  omega
theorem bitG_i (t : G) (i : Nat) : (bits BinOp.and IntKind.u32 ((t.n : Int) / 2 ^ i) 1 == 1) = bitG t i := by
  have h : t.n / 2 ^ i ≤ t.n := Nat.div_le_self _ _
  have e : ((t.n : Int) / 2 ^ i) = ((t.n / 2 ^ i : Nat) : Int) := by simp
  have ht := t.lt
  rw [e, show (1 : Int) = ((1 : Nat) : Int) from rfl, u32_and_nat _ _ (by omega) (by omega), Nat.and_one_is_mod]
  unfold bitG
  rw [Nat.testBit_eq_decide_div_mod_eq]
  rcases Nat.mod_two_eq_zero_or_one (t.n / 2 ^ i) with h | h <;> rw [h] <;> rfl
theorem cs_set6 (l : List F) (i : Nat) (x : F) : (cs l).set i (.int .u8 x.n) = cs (l.set i x) := by
  simp [cs, List.map_set]
set_option maxHeartbeats 2000000 in
theorem walk_CrcBursts (w : World) (ht : Tab w) (A : Option Addr) (n c : Nat) (l : List F) (ha : RowIn w A n c l) (a : Int) (hwa : (Lit.int .i64 a).wf = true) (t : G) :
    Calls Tryd.prog 5 #[.slice A n c, .int .i64 a, .int .u32 t.n] w fun e w' => e = .returned (.bool true) ∧ Below w.heap.size w w' := by
  have hnm := ha.row.max
  by_cases hn : n < 5 ∨ 300 < n ∨ t = 0
  · by_cases hn1 : (n : Int) < 5
    · go_enter Tryd.func5, Tryd.ntmps5
      go_wp2_with (go_at_call 8; refine (alive06_c _ ht).mono ?_; rintro e w1 ⟨rfl, hb1⟩)
      go_ret
      exact ⟨rfl, hb1⟩
    · by_cases hn2 : (300 : Int) < n
      · go_enter Tryd.func5, Tryd.ntmps5
        go_wp2_with (go_at_call 8; refine (alive06_c _ ht).mono ?_; rintro e w1 ⟨rfl, hb1⟩)
        go_ret
        exact ⟨rfl, hb1⟩
      · obtain rfl : t = 0 := by
          rcases hn with h | h | h
          · omega
          · omega
          · exact h
        have e0 : (((0 : G).n : Int) == 0) = true := rfl
        go_enter Tryd.func5, Tryd.ntmps5
        go_wp2_with (go_at_call 8; refine (alive06_c _ ht).mono ?_; rintro e w1 ⟨rfl, hb1⟩)
        go_ret
        exact ⟨rfl, hb1⟩
  · have hn1 : ¬ (n : Int) < 5 := by omega
    have hn2 : ¬ (300 : Int) < n := by omega
    have ht0 : ((t.n : Int) == 0) = false := by
      rw [beq_eq_false_iff_ne]
      intro e
      exact hn (.inr (.inr (g_eq_zero.1 (by omega))))
    have HT0 : Hid (t ≠ 0) := fun e => hn (.inr (.inr e))
    obtain ⟨z, hz, ez⟩ := andM a 4095 (by omega)
    have ez2 : bits BinOp.and IntKind.i64 a 4095 = (z : Int) := ez
    clear ez hn
    obtain ⟨d, hd⟩ : ∃ d, d = n - 4 := ⟨_, rfl⟩
    have hd1 : (n : Int) - 4 = (d : Int) := by omega
    have hd0 : 0 < d := by omega
    obtain ⟨d8, hd8⟩ : ∃ d8, d8 = 8 * d := ⟨_, rfl⟩
    have hd81 : 8 * (d : Int) = (d8 : Int) := by omega
    obtain ⟨at_, hat⟩ : ∃ a, a = z % d8 := ⟨_, rfl⟩
    have hat1 : (z : Int) % (d8 : Int) = (at_ : Int) := by omega
    have hat2 : (z : Int).tmod (d8 : Int) = (at_ : Int) := by rw [Int.tmod_eq_emod_of_nonneg (by omega)]; exact hat1
    have hlt : at_ < d8 := by rw [hat]; exact Nat.mod_lt _ (by omega)
    have hd80 : ((d8 : Int) == 0) = false := by rw [beq_eq_false_iff_ne]; omega
    have hfit : at_ + 32 ≤ 8 * n := by omega
    have hdn : d + 4 = n := by omega
    have HD8 := Lib.hid hd8
    clear hat hd hd8
    have HLEN := Lib.hid ha.row.len
    go_enter Tryd.func5, Tryd.ntmps5
    go_wp2_with (first
      | (go_at_call 8; refine (alive06_c _ ht).mono ?_; rintro e w1 ⟨rfl, hb1⟩)
      | (go_at_call 19; refine (Copy6_c A n c l _ (ha.row.below hb1) (by omega)).mono ?_; rintro e w2 ⟨g, c2, rfl, hown2, hb2⟩))
    have hs12 := hb1.size
    have hB2 := hb1.trans (hb2.mono hs12)
    clear hb1 hb2
    go_loopw [33] (fun i wr => ∃ k : Nat, k ≤ 32 ∧ i = .int .i64 k ∧ wr.ownsRow w1.heap.size 5 1 (.slice (some ⟨g, 0, none⟩) n c2) n (cs (flips l at_ t k)) ∧ Below w.heap.size w wr) (fun i _ => 32 - (intOf i).toNat)
    case atStart => exact ⟨0, by omega, rfl, hown2, hB2⟩
    case round =>
      clear hown2 hB2
      obtain ⟨k, hk, rfl, hown, hbel⟩ := hrel
      by_cases hlt2 : k < 32
      · have hk32 : (k : Int) < 32 := by omega
        have hbit := bitG_i t k
        by_cases hb : bitG t k = true
        · rw [hb] at hbit
          have HB := Lib.hid hb
          have hgl := (hown.lt g rfl).1
          have hgl : w.heap.size ≤ g := by omega
          clear hb
          obtain ⟨q, hq⟩ : ∃ q, q = (at_ + k) / 8 := ⟨_, rfl⟩
          obtain ⟨r, hr⟩ : ∃ r, r = (at_ + k) % 8 := ⟨_, rfl⟩
          have hqn : q < n := by omega
          have hr8 : r < 8 := by omega
          have hr80 : 0 ≤ (r : Int) := by omega
          have hlen := own_len6 hown
          have hcell := hown.cellAt q (by omega)
          rw [cs_at (by omega)] at hcell
          have hfz := hown.frozenAt q
          have hqi : (q : Int) < n := by omega
          have HQ := Lib.hid hq
          have HR := Lib.hid hr
          clear hq hr
          go_wp2
          have hq1 : ((at_ : Int) + (k : Int)) / 8 = (q : Int) := by have := HQ.out; omega
          have hr1 : ((at_ : Int) + (k : Int)) % 8 = (r : Int) := by have := HR.out; omega
          have hq2 : ((at_ : Int) + (k : Int)).tdiv 8 = (q : Int) := by rw [Int.tdiv_eq_ediv_of_nonneg (by omega)]; exact hq1
          have hr2 : ((at_ : Int) + (k : Int)).tmod 8 = (r : Int) := by rw [Int.tmod_eq_emod_of_nonneg (by omega)]; exact hr1
          have hq3 : IntKind.i64.wrap (q : Int) = (q : Int) := IntWalk.i64_in _ (by omega)
          have hr3 : IntKind.i64.wrap (r : Int) = (r : Int) := IntWalk.i64_in _ (by omega)
          have hx : bits BinOp.xor IntKind.u8 ((gt (flips l at_ t k) q).n : Int) (2 ^ r % 256) = ((gt (flips l at_ t k) q + ofN (2 ^ r)).n : Int) := by
            have h1 : (2 : Nat) ^ r < 256 := by
              have := Nat.pow_lt_pow_right (a := 2) (by omega) hr8
              simpa using this
            have h2 : ((2 : Int) ^ r % 256) = ((2 ^ r : Nat) : Int) := by
              have h3 : ((2 ^ r : Nat) : Int) = (2 : Int) ^ r := by simp
              rw [← h3]
              exact Int.emod_eq_of_lt (Int.natCast_nonneg _) (by exact_mod_cast h1)
            rw [h2, u8_xor_nat _ _ (F.lt _) h1, add_n, ofN_n _ h1]
          have hst := Lib.hid (hown.stored q (.int .u8 (gt (flips l at_ t k) q + ofN (2 ^ r)).n)).1
          have hnx : Hid (flips l at_ t (k + 1) = (flips l at_ t k).set q (gt (flips l at_ t k) q + ofN (2 ^ r))) := by
            show (if bitG t k then flip (flips l at_ t k) (at_ + k) else flips l at_ t k) = _
            rw [if_pos HB.out]
            unfold flip
            rw [← HQ.out, ← HR.out]
            rfl
          clear hown
          go_region
          go_wp2
          go_roundw
          case rel =>
            refine ⟨k + 1, by omega, by go_num, ?_, below_drewN (hbel.setCell hgl _) 1⟩
            have h := hst.out
            rw [cs_set6, ← hnx.out] at h
            exact h
          case measure => simp [intOf]; omega
        · have hbf : bitG t k = false := by simpa using hb
          rw [hbf] at hbit
          have hnx : Hid (flips l at_ t (k + 1) = flips l at_ t k) := by
            show (if bitG t k then flip (flips l at_ t k) (at_ + k) else flips l at_ t k) = _
            rw [if_neg hb]
          clear hb hbf
          go_wp2
          go_roundw
          case rel => exact ⟨k + 1, by omega, by go_num, by rw [hnx.out]; exact hown, hbel⟩
          case measure => simp [intOf]; omega
      · obtain rfl : k = 32 := by omega
        have hk32 : ¬ ((32 : Nat) : Int) < 32 := by omega
        have htw := ht.below hbel rfl
        have hrw := (ha.below hbel).row
        have hrf := Row.of_own hown
        have hne : (((sum32 (flips l at_ t 32)).n : Int) != ((sum32 l).n : Int)) = true := by
          rw [bne_iff_ne]
          intro e
          exact sum_flips l at_ t (by rw [HLEN.out]; exact hfit) HT0.out (G.ext (by omega))
        go_wp2_with (first
          | (go_at_call 11; (with_reducible refine (Sum_c A n c l _ htw hrw).mono ?_); rintro e w' ⟨rfl, rfl⟩)
          | (go_at_call 11; (with_reducible refine (Sum_c _ n c2 (flips l at_ t 32) _ htw hrf).mono ?_); rintro e w' ⟨rfl, rfl⟩))
        go_ret
        exact ⟨rfl, hbel⟩
end Go.Proofs.YtjgemnpineiigaaDoor
