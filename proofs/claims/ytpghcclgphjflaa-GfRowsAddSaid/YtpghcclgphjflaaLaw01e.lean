/-
  LAW 01's WALK OVER ROWS (GfRowsAdd): it returns true, and writes nothing that was there. No conditions.
-/
import Derived.Test.YtpghcclgphjflaaLaw01d
import Derived.Deep.RegionHeld3
import Derived.Deep.AppendLies
namespace Go.Proofs.Ytpghcclgphjflaa
open Go.RowKit
set_option linter.unusedVariables false

/-- the sum of two rows, byte by byte, as far as the first goes -/
def sumF (a b : List F) : Nat → List F
  | 0 => []
  | k + 1 => sumF a b k ++ [gt a k + gt b k]
theorem sumF_length (a b : List F) (k : Nat) : (sumF a b k).length = k := by
  induction k with
  | zero => rfl
  | succ k ih => simp [sumF, ih]

theorem gt_sum (a b : List F) (k i : Nat) (h : i < k) : gt (sumF a b k) i = gt a i + gt b i := by
  induction k with
  | zero => omega
  | succ k ih =>
    have hl := sumF_length a b k
    rcases Nat.lt_or_ge i k with h1 | h1
    · rw [← ih h1, gt_lt (by rw [sumF_length]; omega), gt_lt (by rw [hl]; omega)]
      simp only [sumF]
      rw [List.getElem_append_left]
    · obtain rfl : i = k := by omega
      rw [gt_lt (by rw [sumF_length]; omega)]
      simp only [sumF]
      rw [List.getElem_append_right (by omega)]
      simp [hl]
theorem dot_sum (a b c : List F) (n k : Nat) (h : k ≤ n) : dotF (sumF a b n) c k = dotF a c k + dotF b c k := by
  induction k with
  | zero => exact (add_zero 0).symm
  | succ k ih =>
    show dotF (sumF a b n) c k + gt (sumF a b n) k * gt c k = (dotF a c k + gt a k * gt c k) + (dotF b c k + gt b k * gt c k)
    rw [ih (by omega), gt_sum a b n k (by omega), add_mul]
    ac_rfl
theorem dot_scale (a b : List F) (x : F) (k : Nat) : dotF (scaleF a x) b k = x * dotF a b k := by
  induction k with
  | zero => exact (mul_zero x).symm
  | succ k ih =>
    show dotF (scaleF a x) b k + gt (scaleF a x) k * gt b k = x * (dotF a b k + gt a k * gt b k)
    rw [ih, gt_scale, mul_add]
    congr 1
    ac_rfl
theorem scale_one (a : List F) : scaleF a 1 = a := by
  unfold scaleF
  conv => rhs; rw [← List.map_id a]
  exact List.map_congr_left fun x _ => mul_one x
theorem dot_same (X Y : Option Addr) (n c d : Nat) (l m : List F) (W : World) (h1 : Row W X n l) (h2 : Row W Y n m) :
    Calls Try.prog 26 #[.slice X n c, .slice Y n d] W fun e w' => e = .returned (.int .u8 (dotF l m n).n) ∧ ∃ q, w' = W.drewN q := by
  have h := Dot_c X Y n n c d l m W h1 h2
  rw [Nat.min_self] at h
  exact h
/-- what the law's last words go by, in whatever world -/
structure Five (w0 : World) (A B V G : Option Addr) (n : Nat) (a b s t : List F) (W : World) : Prop where
  ra : Row W A n a
  rb : Row W B n b
  rv : Row W V n s
  rg : Row W G n t
  bel : Below w0.heap.size w0 W
section
variable {w0 W W' : World} {A B V G : Option Addr} {n : Nat} {a b s t : List F}
theorem Five.drewN (h : Five w0 A B V G n a b s t W) (q : Nat) : Five w0 A B V G n a b s t (W.drewN q) := ⟨h.ra.drewN q, h.rb.drewN q, h.rv.drewN q, h.rg.drewN q, below_drewN h.bel q⟩
theorem Five.drew (h : Five w0 A B V G n a b s t W) : Five w0 A B V G n a b s t W.drew := ⟨h.ra.drew, h.rb.drew, h.rv.drew, h.rg.drew, h.bel.drew⟩
theorem Five.step (h : Five w0 A B V G n a b s t W) (hb : Below W.heap.size W W') : Five w0 A B V G n a b s t W' := ⟨h.ra.below hb, h.rb.below hb, h.rv.below hb, h.rg.below hb, h.bel.trans (hb.mono h.bel.size)⟩
/-- and the first row as a string -/
def FiveS (w0 : World) (A B V G : Option Addr) (n ca : Nat) (a b s t : List F) (W : World) : Prop :=
  Five w0 A B V G n a b s t W ∧ (convert 31 9 (.slice A n ca)).run Try.prog W = .ok (.string (strB a)) W
theorem Five.S (h : Five w0 A B V G n a b s t W) (ca : Nat) : FiveS w0 A B V G n ca a b s t W := ⟨h, run_row_string ca h.ra⟩
theorem dot_five (X Y : Option Addr) (c d ca : Nat) (l m : List F) (h : Five w0 A B V G n a b s t W) (h1 : Row W X n l) (h2 : Row W Y n m) :
    Calls Try.prog 26 #[.slice X n c, .slice Y n d] W fun e w' => e = .returned (.int .u8 (dotF l m n).n) ∧ FiveS w0 A B V G n ca a b s t w' := by
  refine (dot_same X Y n c d l m W h1 h2).mono ?_
  rintro e w' ⟨rfl, q, rfl⟩
  exact ⟨rfl, (h.drewN q).S ca⟩
theorem add_five (x y : F) (ca : Nat) (h : Five w0 A B V G n a b s t W) : Calls Try.prog 20 #[.int .u8 x.n, .int .u8 y.n] W fun e w' => e = .returned (.int .u8 (x + y).n) ∧ FiveS w0 A B V G n ca a b s t w' := by
  refine (Add_c x y W).mono ?_
  rintro e w' ⟨rfl, rfl⟩
  exact ⟨rfl, h.S ca⟩
theorem mul_five (x y : F) (ca : Nat) (h : Five w0 A B V G n a b s t W) : Calls Try.prog 21 #[.int .u8 x.n, .int .u8 y.n] W fun e w' => e = .returned (.int .u8 (x * y).n) ∧ FiveS w0 A B V G n ca a b s t w' := by
  refine (Mul_c x y W).mono ?_
  rintro e w' ⟨rfl, rfl⟩
  exact ⟨rfl, h.S ca⟩
theorem scale_five (c ca : Nat) (hn : n ≤ 300) (h : Five w0 A B V G n a b s t W) :
    Calls Try.prog 25 #[.slice A n c, .int .u8 1] W fun e w' => ∃ g, e = .returned (.slice (some ⟨g, 0, none⟩) n n) ∧ FiveS w0 A B V G n ca a b s t w' ∧ (convert 31 9 (.slice (some ⟨g, 0, none⟩) n n)).run Try.prog w' = .ok (.string (strB a)) w' := by
  have h1 := Scale_c A n c a 1 W h.ra (by omega)
  rw [scale_one] at h1
  refine h1.mono ?_
  rintro e w' ⟨g, rfl, hown, hb⟩
  exact ⟨g, rfl, (h.step hb).S ca, run_row_string n (Row.of_own hown)⟩
end

set_option maxHeartbeats 8000000 in
set_option maxRecDepth 100000 in
theorem add_small (A B : Option Addr) (n ca cb : Nat) (a b : List F) (x y : F) (w : World) (ha : Row w A n a) (hb : Row w B n b) (hn : n ≤ 300) :
    Calls Try.prog 7 #[.slice A n ca, .slice B n cb, .int .u8 x.n, .int .u8 y.n] w fun e w' => e = .returned (.bool true) ∧ Below w.heap.size w w' := by
  have hla := Lib.hid ha.len
  have hlb := Lib.hid hb.len
  obtain ⟨i0, hi, hz0, hz1, hz2⟩ := info_parts info_u8
  go_enter Try.func7, Try.ntmps7
  go_wp2_with (go_at_call 14; refine (alive01_c _).mono ?_; rintro e w1 ⟨rfl, hb1⟩)
  have ha1 := ha.below hb1
  have hb1' := hb.below hb1
  go_wp2_with fail
  refine (Scale_c A n ca a x _ ha1 (by omega)).mono ?_
  rintro e w2 ⟨g1, rfl, hown1, hbel2⟩
  have ha2 := ha1.below hbel2
  go_wp2_with fail
  refine (Scale_c A n ca a y _ ha2 (by omega)).mono ?_
  rintro e w3 ⟨g2, rfl, hown2, hbel3⟩
  have ha3 := ha2.below hbel3
  go_wp2_with (go_at_call 20; refine (Add_c _ _ _).mono ?_; rintro e w' ⟨rfl, rfl⟩)
  refine (Scale_c A n ca a (x + y) _ ha3 (by omega)).mono ?_
  rintro e w4 ⟨g3, rfl, hown3, hbel4⟩
  have ha4 := ha3.below hbel4
  have hb4 := ((hb1'.below hbel2).below hbel3).below hbel4
  have hs1 := ((Row.of_own hown1).below hbel3).below hbel4
  have hs2 := (Row.of_own hown2).below hbel4
  have hs3 := Row.of_own hown3
  have hA4 := Lib.hid (Below.refl w4.heap.size w4)
  go_wp2
  go_loopw [12, 40] (fun v i wr => ∃ (k : Nat) (V : Option Addr) (cv : Nat), k ≤ n ∧ i = .int .i64 k ∧ v = .slice V k cv ∧ wr.ownsRow w4.heap.size 5 1 (.slice V k cv) k (cs (sumF a b k)) ∧ Below w4.heap.size w4 wr) (fun _ i _ => n - (intOf i).toNat)
  case atStart => exact ⟨0, _, _, by omega, rfl, rfl, World.ownsRow_made w4 #[] 0 (Nat.le_refl _) (by unfold maxLen; omega) rfl, (Below.refl _ _).alloc (Nat.le_refl _) _⟩
  case round =>
    obtain ⟨k, V, cv, hk, rfl, rfl, hown, hbel⟩ := hrel
    by_cases hlt : k < n
    · obtain ⟨b1, o1, rfl, l1, h1⟩ := ha4.at_ hlt
      obtain ⟨b2, o2, rfl, l2, h2⟩ := hb4.at_ hlt
      replace h1 := (hbel.cell (p := ⟨b1, o1 + k, none⟩) l1).trans h1
      replace h2 := (hbel.cell (p := ⟨b2, o2 + k, none⟩) l2).trans h2
      obtain ⟨c1, p1, e1, _, q1⟩ := (hs1.below hbel).at_ hlt
      obtain ⟨c2, p2, e2, _, q2⟩ := (hs2.below hbel).at_ hlt
      obtain ⟨c3, p3, e3, _, q3⟩ := (hs3.below hbel).at_ hlt
      injection e1 with e1
      injection e1 with e1 e1'
      subst e1 e1'
      injection e2 with e2
      injection e2 with e2 e2'
      subst e2 e2'
      injection e3 with e3
      injection e3 with e3 e3'
      subst e3 e3'
      rw [Nat.zero_add] at q1 q2 q3
      have hjk : decide ((n : Int) ≤ (k : Int)) = false := by simp; omega
      have hx1 := bits_add (gt (scaleF a x) k) (gt (scaleF a y) k)
      have hx2 := bits_add (gt a k) (gt b k)
      have ht : (((gt (scaleF a (x + y)) k).n : Int) != ((gt (scaleF a x) k + gt (scaleF a y) k).n : Int)) = false := by rw [gt_scale, gt_scale, gt_scale, mul_add]; simp
      go_wp2
      go_quiet (fail)
      go_wp2
      have hown' : (wr.drewN nq).ownsRow w4.heap.size 5 1 (.slice V k cv) k (cs (sumF a b k)) := hown
      have hbel' := below_drewN hbel nq
      have h1' : (wr.drewN nq).cell? ⟨b1, o1 + k, none⟩ = some (.int .u8 (gt a k).n) := h1
      have h2' : (wr.drewN nq).cell? ⟨b2, o2 + k, none⟩ = some (.int .u8 (gt b k).n) := h2
      have ag1 : some b1 ≠ (Value.slice V k cv).ownBlock := fun e => by have := (hown'.lt b1 e.symm).1; omega
      have ag2 : some b2 ≠ (Value.slice V k cv).ownBlock := fun e => by have := (hown'.lt b2 e.symm).1; omega
      have lW : w4.heap.size ≤ (wr.drewN nq).heap.size := hbel'.size
      clear hown hbel h1 h2 q1 q2 q3 hjk hx1 ht
      generalize wr.drewN nq = W at *
      go_region_held3 (fun w' => w'.cell? ⟨b1, o1 + k, none⟩ = some (.int .u8 (gt a k).n) ∧ w'.cell? ⟨b2, o2 + k, none⟩ = some (.int .u8 (gt b k).n))
        (first
          | go_keep
          | (go_split_ands
             refine ⟨?_, ?_⟩
             · (rw [hgrow.cell_far _ (by simp; omega) ag1]; assumption)
             · (rw [hgrow.cell_far _ (by simp; omega) ag2]; assumption)))
        ((refine step_append_lies _ (by rfl) _ _ _ (by rfl) w4.heap.size 5 i0 _ 1 1 Try.underlying31 hi hz0 hz1 hz2 rfl (by omega) (.slice V k cv) k (cs (sumF a b k)) (by rfl) ((hown'.alloc _).drew)
            ⟨W.heap.size, 0, none⟩ 1 1 [.int .u8 (gt a k + gt b k).n] (by rfl) (by rfl) (World.news_of_block (cs := #[.int .u8 (gt a k + gt b k).n]) (t := 5) (fr := (0, 0)) (heap_alloc_new W _)) (by simp [Value.oneCell'])
            (by omega) (by unfold maxLen; omega) (by omega) (by have := hbel'.size; simp; omega) (W.heap.size + 1) (by simp) ?_; intro gg cap w5 hown5 hgrow hat hlt5))
      go_wp2
      go_roundw
      case rel =>
        refine ⟨k + 1, _, cap, by omega, by go_num, rfl, ?_, ((hbel'.alloc hbel'.size _).drew).grown hgrow (by have := hbel'.size; simp; omega) (fun g hg => (hown'.lt g hg).1)⟩
        show w5.ownsRow _ _ _ _ _ (cs (sumF a b k ++ [gt a k + gt b k]))
        rw [cs_append]
        exact hown5
      case measure => simp [intOf]; omega
    · obtain rfl : k = n := by omega
      have ra5 := ha4.below hbel
      have h5 : Five w4 A B V (some ⟨g1, 0, none⟩) k a b (sumF a b k) (scaleF a x) wr := ⟨ra5, hb4.below hbel, Row.of_own hown, hs1.below hbel, hbel⟩
      have e1 : (((dotF (sumF a b k) b k).n : Int) == ((dotF a b k + dotF b b k).n : Int)) = true := by rw [dot_sum a b b k k (Nat.le_refl _)]; simp
      have e2 : (((dotF (scaleF a x) b k).n : Int) == ((x * dotF a b k).n : Int)) = true := by rw [dot_scale]; simp
      clear hown hbel hs2 hs3 hown3 hown2 hown1 hA4
      go_wp2
      have h6 := Five.drew h5
      have hc6 := run_row_string ca h6.ra
      clear h5
      go_region_with (first
          | (go_at_call 26; (with_reducible refine (dot_five V B _ _ ca (sumF a b k) b (show Five w4 A B V (some ⟨g1, 0, none⟩) k a b (sumF a b k) (scaleF a x) _ from (by assumption)) (show Five w4 A B V (some ⟨g1, 0, none⟩) k a b (sumF a b k) (scaleF a x) _ from (by assumption)).rv (show Five w4 A B V (some ⟨g1, 0, none⟩) k a b (sumF a b k) (scaleF a x) _ from (by assumption)).rb).mono ?_); rintro e w' ⟨rfl, hF⟩; obtain ⟨hF, hc⟩ := hF)
          | (go_at_call 26; (with_reducible refine (dot_five A B _ _ ca a b (show Five w4 A B V (some ⟨g1, 0, none⟩) k a b (sumF a b k) (scaleF a x) _ from (by assumption)) (show Five w4 A B V (some ⟨g1, 0, none⟩) k a b (sumF a b k) (scaleF a x) _ from (by assumption)).ra (show Five w4 A B V (some ⟨g1, 0, none⟩) k a b (sumF a b k) (scaleF a x) _ from (by assumption)).rb).mono ?_); rintro e w' ⟨rfl, hF⟩; obtain ⟨hF, hc⟩ := hF)
          | (go_at_call 26; (with_reducible refine (dot_five B B _ _ ca b b (show Five w4 A B V (some ⟨g1, 0, none⟩) k a b (sumF a b k) (scaleF a x) _ from (by assumption)) (show Five w4 A B V (some ⟨g1, 0, none⟩) k a b (sumF a b k) (scaleF a x) _ from (by assumption)).rb (show Five w4 A B V (some ⟨g1, 0, none⟩) k a b (sumF a b k) (scaleF a x) _ from (by assumption)).rb).mono ?_); rintro e w' ⟨rfl, hF⟩; obtain ⟨hF, hc⟩ := hF)
          | (go_at_call 26; (with_reducible refine (dot_five (some ⟨g1, 0, none⟩) B _ _ ca (scaleF a x) b (show Five w4 A B V (some ⟨g1, 0, none⟩) k a b (sumF a b k) (scaleF a x) _ from (by assumption)) (show Five w4 A B V (some ⟨g1, 0, none⟩) k a b (sumF a b k) (scaleF a x) _ from (by assumption)).rg (show Five w4 A B V (some ⟨g1, 0, none⟩) k a b (sumF a b k) (scaleF a x) _ from (by assumption)).rb).mono ?_); rintro e w' ⟨rfl, hF⟩; obtain ⟨hF, hc⟩ := hF)
          | (go_at_call 20; refine (add_five _ _ ca (show Five w4 A B V (some ⟨g1, 0, none⟩) k a b (sumF a b k) (scaleF a x) _ from (by assumption))).mono ?_; rintro e w' ⟨rfl, hF⟩; obtain ⟨hF, hc⟩ := hF)
          | (go_at_call 21; refine (mul_five _ _ ca (show Five w4 A B V (some ⟨g1, 0, none⟩) k a b (sumF a b k) (scaleF a x) _ from (by assumption))).mono ?_; rintro e w' ⟨rfl, hF⟩; obtain ⟨hF, hc⟩ := hF)
          | (go_at_call 25; refine (scale_five _ ca hn (show Five w4 A B V (some ⟨g1, 0, none⟩) k a b (sumF a b k) (scaleF a x) _ from (by assumption))).mono ?_; rintro e w' ⟨g', rfl, hF, hcv⟩; obtain ⟨hF, hc⟩ := hF))
      all_goals go_wp2
      all_goals go_ret
      all_goals exact ⟨rfl, hb1.trans ((hbel2.trans ((hbel3.trans ((hbel4.trans (hF.bel.mono hbel4.size)).mono hbel3.size)).mono hbel2.size)).mono hb1.size)⟩
set_option maxHeartbeats 1000000 in
set_option maxRecDepth 100000 in
theorem add_other (A B : Option Addr) (n m ca cb : Nat) (x y : F) (w : World) (h : 300 < n ∨ (n ≤ 300 ∧ ((m : Int) != (n : Int)) = true)) (hn : n ≤ 9223372036854775807) (hm : m ≤ 9223372036854775807) :
    Calls Try.prog 7 #[.slice A n ca, .slice B m cb, .int .u8 x.n, .int .u8 y.n] w fun e w' => e = .returned (.bool true) ∧ Below w.heap.size w w' := by
  rcases h with h | ⟨h, h2⟩
  all_goals
    go_enter Try.func7, Try.ntmps7
    go_wp2_with (go_at_call 14; refine (alive01_c _).mono ?_; rintro e w1 ⟨rfl, hb1⟩)
    go_ret
    exact ⟨rfl, hb1⟩
theorem walk_GfRowsAdd (w : World) (A : Option Addr) (n ca : Nat) (a : List F) (ha : RowIn w A n ca a) (B : Option Addr) (m cb : Nat) (b : List F) (hb : RowIn w B m cb b) (x y : F) :
    Calls Try.prog 7 #[.slice A n ca, .slice B m cb, .int .u8 x.n, .int .u8 y.n] w fun e w' => e = .returned (.bool true) ∧ Below w.heap.size w w' := by
  by_cases hn : n ≤ 300
  · by_cases hm : m = n
    · subst hm
      exact add_small A B m ca cb a b x y w ha.row hb.row hn
    · exact add_other A B n m ca cb x y w (.inr ⟨hn, by rw [bne_iff_ne]; omega⟩) ha.row.max hb.row.max
  · exact add_other A B n m ca cb x y w (.inl (by omega)) ha.row.max hb.row.max
end Go.Proofs.Ytpghcclgphjflaa
