/-
  THE DOCUMENT's OWN ANSWERS FOR LAYER 4: Word, Of, May, Fill. Words of at most 2^16 bytes.
-/
import Derived.Test.YtbmkcnlcffnjgaaLaw04a
import Derived.Test.YtbmkcnlcffnjgaaRef5
namespace Go.Proofs.Ytbmkcnlcffnjgaa
open Go.RowKit
set_option maxRecDepth 100000
set_option linter.unusedVariables false

theorem mkF_snoc (f : Nat → F) (k : Nat) : mkF f (k + 1) = mkF f k ++ [f k] := by
  refine ext_gt (by simp [mkF_length]) fun i hi => ?_
  rw [mkF_length] at hi
  rw [gt_mkF, if_pos hi]
  by_cases h : i < k
  · rw [gt_lt (by simp [mkF_length]; omega), List.getElem_append_left (by rw [mkF_length]; exact h)]
    have := gt_mkF f k i
    rw [if_pos h, gt_lt (by rw [mkF_length]; exact h)] at this
    exact this.symm
  · obtain rfl : i = k := by omega
    rw [gt_lt (by simp [mkF_length])]
    simp [mkF_length]
theorem vals_snoc (T : List F) (k : Nat) : vals T 0 (k + 1) = vals T 0 k ++ [ev T (plI k)] := by
  have h := mkF_snoc (fun i => ev T (plI (0 + i))) k
  rw [Nat.zero_add] at h
  exact h
theorem own_caps4 {w : World} {base n c g : Nat} {e : TypeId} {xs : List Value} (h : w.ownsRow base e 1 (.slice (some ⟨g, 0, none⟩) n c) n xs) : n ≤ c ∧ c ≤ maxLen := by
  rcases h.2 with ⟨e, _⟩ | ⟨g', cap', cur, e, _, _, h1, h2, _⟩
  · injection e with e; cases e
  · injection e with _ _ e; subst e; exact ⟨h1, h2⟩
theorem own_RowIn {w : World} {base n c g : Nat} {l : List F} (h : w.ownsRow base 5 1 (.slice (some ⟨g, 0, none⟩) n c) n (cs l)) : RowIn w (some ⟨g, 0, none⟩) n c l := ⟨Row.of_own h, (own_caps4 h).1, (own_caps4 h).2⟩
set_option maxHeartbeats 2000000 in
theorem Word_c (A B : Option Addr) (n ca cb s : Nat) (xs ys : List F) (w : World) (hx : Row w A n xs) (hy : Row w B n ys) (hd : xs.Nodup) (hn : n ≤ 1048576) (hs : s ≤ 65536) :
    Calls Try.prog 47 #[.slice A n ca, .slice B n cb, .int .i64 s] w fun e w' => ∃ g c T, e = .returned (.slice (some ⟨g, 0, none⟩) s c) ∧ w'.ownsRow w.heap.size 5 1 (.slice (some ⟨g, 0, none⟩) s c) s (cs (vals T 0 s)) ∧ IsThrough xs ys T ∧ Below w.heap.size w w' := by
  obtain ⟨i0, hi, hz0, hz1, hz2⟩ := info_parts info_u8
  have HD := Lib.hid hd
  clear hd
  go_enter Try.func47, Try.ntmps47
  go_wp2_with fail
  refine (RefThrough_c A B n ca cb xs ys w hx hy HD.out hn).mono ?_
  rintro e w1 ⟨A', t, c', T, rfl, hT, hth, hb1⟩
  have HTH := Lib.hid hth
  clear hth
  have hs1 := hb1.size
  go_wp2
  go_loopw [8, 9] (fun v i wr => ∃ (k g c : Nat), k ≤ s ∧ i = .int .i64 k ∧ v = .slice (some ⟨g, 0, none⟩) k c ∧ wr.ownsRow w1.heap.size 5 1 (.slice (some ⟨g, 0, none⟩) k c) k (cs (vals T 0 k)) ∧ Below w1.heap.size w1 wr) (fun _ i _ => s - (intOf i).toNat)
  case atStart => exact ⟨0, _, 0, by omega, rfl, rfl, World.ownsRow_made (e := 5) (size := 1) w1 #[] 0 (Nat.le_refl _) (Nat.zero_le _) rfl, (Below.refl _ _).alloc (Nat.le_refl _) _⟩
  case round =>
    obtain ⟨k, g, c, hk, rfl, rfl, hown, hbel⟩ := hrel
    have hs0 := hbel.size
    by_cases hlt : k < s
    · have hks : (k : Int) < s := by omega
      have hpl := plI_conv k
      have hpw : IntKind.u8.wrap (k : Int) = ((plI k).n : Int) := by rw [← plI_conv]; rfl
      have hrow := hT.row.below hbel
      have hv := Lib.hid (vals_snoc T k)
      go_wp2_with (first
        | (go_at_call 52; refine (RefEval_c _ _ _ T (plI k) _ hrow).mono ?_; rintro e w' ⟨rfl, rfl⟩)
        | (at_builtin; refine wpList_append_lies _ rfl (.tmp 19) (.tmp 24) 22 rfl w1.heap.size 5 i0 (.int .u8 0) 1 1 Try.underlying22 hi hz0 hz1 hz2 rfl (by decide) (.slice (some ⟨g, 0, none⟩) k c) k (cs (vals T 0 k)) rfl (hown.alloc _) ⟨wr.heap.size, 0, none⟩ 1 1 [.int .u8 (ev T (plI k)).n] rfl rfl (one_cell wr _ _) (by intro u hu; simp at hu; subst hu; rfl) (by omega) (by unfold maxLen; omega) (by omega) (by simp; omega) (wr.heap.size + 1) (by simp) ?_; intro g5 c5 w5 hown5 hg5 hat5 hlt5))
      have hb5 := (hbel.alloc hs0 (.cells #[.int .u8 (ev T (plI k)).n] 5)).grown hg5 (by simp; omega) (fun x hx => (hown.lt x hx).1)
      have hown6 : w5.ownsRow w1.heap.size 5 1 (.slice (some ⟨g5, 0, none⟩) (k + 1) c5) (k + 1) (cs (vals T 0 (k + 1))) := by
        rw [hv.out, cs_append]
        exact hown5
      clear hown hbel hown5 hg5 hat5 hlt5 hrow hpl hpw
      go_wp2
      go_roundw
      case rel => exact ⟨k + 1, g5, c5, by omega, by go_num, rfl, hown6, hb5⟩
      case measure => simp [intOf]; omega
    · obtain rfl : k = s := by omega
      go_wp2
      go_ret
      exact ⟨g, c, T, rfl, hown.mono hs1, HTH.out, hb1.trans (hbel.mono hs1)⟩
set_option maxHeartbeats 2000000 in
theorem Of_c (A : Option Addr) (n ca k : Nat) (l : List F) (w : World) (h : Row w A n l) (hn : n ≤ 256) (hk : n + k ≤ 65536) :
    Calls Try.prog 34 #[.slice A n ca, .int .i64 k] w fun e w' => ∃ g c T, e = .returned (.slice (some ⟨g, 0, none⟩) (n + k) c) ∧ w'.ownsRow w.heap.size 5 1 (.slice (some ⟨g, 0, none⟩) (n + k) c) (n + k) (cs (vals T 0 (n + k))) ∧ Tells n l T ∧ Below w.heap.size w w' := by
  obtain ⟨i0, hi, hz0, hz1, hz2⟩ := info_parts info_u8
  go_enter Try.func34, Try.ntmps34
  go_wp2
  go_loopw [5, 6] (fun v i wr => ∃ (j g c : Nat), j ≤ n ∧ i = .int .i64 j ∧ v = .slice (some ⟨g, 0, none⟩) j c ∧ wr.ownsRow w.heap.size 5 1 (.slice (some ⟨g, 0, none⟩) j c) j (cs (mkF plI j)) ∧ Below w.heap.size w wr) (fun _ i _ => n - (intOf i).toNat)
  case atStart => exact ⟨0, _, 0, by omega, rfl, rfl, World.ownsRow_made (e := 5) (size := 1) w #[] 0 (Nat.le_refl _) (Nat.zero_le _) rfl, (Below.refl _ _).alloc (Nat.le_refl _) _⟩
  case round =>
    obtain ⟨j, g, c, hj, rfl, rfl, hown, hbel⟩ := hrel
    have hs0 := hbel.size
    by_cases hlt : j < n
    · have hks : (j : Int) < n := by omega
      have hpl := plI_conv j
      have hpw : IntKind.u8.wrap (j : Int) = ((plI j).n : Int) := by rw [← plI_conv]; rfl
      have hv := Lib.hid (mkF_snoc plI j)
      go_wp2_with ((at_builtin; refine wpList_append_lies _ rfl (.tmp 14) (.tmp 17) 22 rfl w.heap.size 5 i0 (.int .u8 0) 1 1 Try.underlying22 hi hz0 hz1 hz2 rfl (by decide) (.slice (some ⟨g, 0, none⟩) j c) j (cs (mkF plI j)) rfl (hown.alloc _) ⟨wr.heap.size, 0, none⟩ 1 1 [.int .u8 (plI j).n] rfl rfl (one_cell wr _ _) (by intro u hu; simp at hu; subst hu; rfl) (by omega) (by unfold maxLen; omega) (by omega) (by simp; omega) (wr.heap.size + 1) (by simp) ?_; intro g5 c5 w5 hown5 hg5 hat5 hlt5))
      have hb5 := (hbel.alloc hs0 (.cells #[.int .u8 (plI j).n] 5)).grown hg5 (by simp; omega) (fun x hx => (hown.lt x hx).1)
      have hown6 : w5.ownsRow w.heap.size 5 1 (.slice (some ⟨g5, 0, none⟩) (j + 1) c5) (j + 1) (cs (mkF plI (j + 1))) := by
        rw [hv.out, cs_append]
        exact hown5
      clear hown hbel hown5 hg5 hat5 hlt5 hpl hpw
      go_wp2
      go_roundw
      case rel => exact ⟨j + 1, g5, c5, by omega, by go_num, rfl, hown6, hb5⟩
      case measure => simp [intOf]; omega
    · obtain rfl : j = n := by omega
      have hr := Row.of_own hown
      have hl := h.below hbel
      have hnd := Lib.hid (plI_nodup j hn)
      have hsum : IntKind.i64.wrap ((j : Int) + (k : Int)) = ((j + k : Nat) : Int) := (IntWalk.i64_in _ (by omega)).trans (by omega)
      have hsum2 : (j : Int) + (k : Int) = ((j + k : Nat) : Int) := by omega
      obtain ⟨s, hsE⟩ : ∃ s, s = j + k := ⟨_, rfl⟩
      rw [← hsE] at hsum hsum2 hk
      have HS := Lib.hid hsE
      clear hown hsE
      go_wp2_with fail
      refine (Word_c _ _ j _ _ s _ l wr hr hl hnd.out (by omega) hk).mono ?_
      rintro e w3 ⟨g3, c3, T, rfl, hown3, hth, hb3⟩
      have HTH := Lib.hid hth
      clear hth
      go_wp2
      go_ret
      rw [← HS.out]
      exact ⟨g3, c3, T, rfl, hown3.mono hs0, HTH.out, hbel.trans (hb3.mono hs0)⟩
/-- so far as it has gone: the places and the bytes at them, in two rows of the call's own -/
structure Two4 (w wr : World) (l : List F) (th : List Bool) (n k gX cX gY cY t : Nat) : Prop where
  len : Hid (t = (fth th n k).length)
  X : wr.ownsRow w.heap.size 5 1 (.slice (some ⟨gX, 0, none⟩) t cX) t (cs (thX th n k))
  Y : wr.ownsRow w.heap.size 5 1 (.slice (some ⟨gY, 0, none⟩) t cY) t (cs (thY l th n k))
  ne : Hid (gX ≠ gY)
  bel : Below w.heap.size w wr
end Go.Proofs.Ytbmkcnlcffnjgaa
