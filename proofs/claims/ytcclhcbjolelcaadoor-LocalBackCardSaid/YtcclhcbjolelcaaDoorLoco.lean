/-
  LOCAL HEADERS: the bytes that the document's Parse lays anew; Same of whatever two rows. No conditions.
-/
import Derived.Test.YtcclhcbjolelcaaDoorLocn
namespace Go.Proofs.YtcclhcbjolelcaaDoor
open Go.RowKit
set_option maxRecDepth 100000
set_option linter.unusedVariables false

/-- bytes of which those from the eighth on, up to the i-th, are others -/
def mixL (g l : List F) (i : Nat) : List F := g.take 8 ++ ((l.drop 8).take (i - 8) ++ g.drop i)
theorem mixL_8 (g l : List F) : mixL g l 8 = g := by
  unfold mixL
  rw [Nat.sub_self, List.take_zero, List.nil_append, List.take_append_drop]
theorem mixL_length (g l : List F) (i : Nat) (h8 : 8 ≤ i) (hg : i ≤ g.length) (hl : i ≤ l.length) : (mixL g l i).length = g.length := by
  unfold mixL
  simp
  omega
theorem mixL_set (g l : List F) (i : Nat) (h8 : 8 ≤ i) (hg : i < g.length) (hl : i < l.length) : (mixL g l i).set i (gt l i) = mixL g l (i + 1) := by
  have h1 := mixL_length g l i h8 (by omega) (by omega)
  refine ext_gt ?_ fun k hk => ?_
  · rw [List.length_set, h1, mixL_length g l (i + 1) (by omega) (by omega) (by omega)]
  · rw [gt_set _ _ _ _ (by omega)]
    unfold mixL
    rw [gt_append, gt_append, gt_append, gt_append, gt_take, gt_take, gt_take, gt_drop, gt_drop, gt_drop]
    simp only [List.length_take, List.length_drop]
    rw [show min 8 g.length = 8 by omega, show min (i - 8) (l.length - 8) = i - 8 by omega, show min (i + 1 - 8) (l.length - 8) = i + 1 - 8 by omega]
    by_cases e : k = i
    · subst e
      rw [if_pos rfl, if_neg (by omega), if_pos (by omega), if_pos (by omega)]
      congr 1
      omega
    · rw [if_neg e]
      by_cases h : k < 8
      · rw [if_pos h, if_pos h, if_pos h]
      · rw [if_neg h, if_neg h]
        by_cases h2 : k < i
        · rw [if_pos (by omega), if_pos (by omega), if_pos (by omega), if_pos (by omega)]
        · rw [if_neg (by omega), if_neg (by omega)]
          congr 1
          omega
def hdP (h : Hd) : List F := putL 67324752 4 ++ (putL (verN (grt h)) 2 ++ putL 2048 2)
def hdR (h : Hd) : List F := putL h.sum 4 ++ (putL (fulN (grt h) h.pk) 4 ++ (putL (fulN (grt h) h.sz) 4 ++ (putL h.nm.length 2 ++ (putL (behN (grt h)) 2 ++ (nmF h.nm ++ hdT h)))))
theorem hdB_parts (h : Hd) (d t : Nat) : hdB h d t = hdP h ++ ((putL h.m.toNat 2 ++ (putL t 2 ++ putL d 2)) ++ hdR h) := by
  have e := hdB_flat h d t []
  rw [List.append_nil, List.append_nil] at e
  rw [e]
  unfold hdP hdR
  simp only [List.append_assoc]
theorem hdP_length (h : Hd) : (hdP h).length = 8 := by
  unfold hdP
  simp [putL_length]
theorem part2 (l : List F) (k : Nat) (h : k + 2 ≤ l.length) : putL (atL l k 2) 2 = (l.drop k).take 2 := by
  rw [atL_eq _ _ _ (by omega)]
  have e : ((l.drop k).take 2).length = 2 := by simp; omega
  have := putL_getL ((l.drop k).take 2)
  rw [e] at this
  exact this
theorem six_of (l : List F) (h : 14 ≤ l.length) : (l.drop 8).take 6 = putL (atL l 8 2) 2 ++ (putL (atL l 10 2) 2 ++ putL (atL l 12 2) 2) := by
  rw [part2 l 8 (by omega), part2 l 10 (by omega), part2 l 12 (by omega)]
  have e1 : (l.drop 8).take 6 = (l.drop 8).take 2 ++ ((l.drop 8).drop 2).take 4 := by rw [← List.take_add]
  have e2 : ((l.drop 8).drop 2).take 4 = (l.drop 10).take 2 ++ (l.drop 12).take 2 := by
    rw [List.drop_drop, show (4 : Nat) = 2 + 2 from rfl, List.take_add, List.drop_drop]
  rw [e1, e2]
/-- with these bytes' own method and stamp it is laid as if it had them -/
theorem mix_hdB (h : Hd) (d t : Nat) (l : List F) (hm : h.m.toNat = atL l 8 2) (hl : 14 ≤ l.length) : mixL (hdB h d t) l 14 = hdB h (atL l 12 2) (atL l 10 2) := by
  unfold mixL
  rw [six_of l hl, hdB_parts h d t, hdB_parts h (atL l 12 2) (atL l 10 2), hm]
  have t8 : (hdP h ++ ((putL (atL l 8 2) 2 ++ (putL t 2 ++ putL d 2)) ++ hdR h)).take 8 = hdP h := by
    rw [List.take_append_of_le_length (by rw [hdP_length]; exact Nat.le_refl _), List.take_of_length_le (by rw [hdP_length]; exact Nat.le_refl _)]
  have d14 : (hdP h ++ ((putL (atL l 8 2) 2 ++ (putL t 2 ++ putL d 2)) ++ hdR h)).drop 14 = hdR h := by
    have e : (hdP h ++ (putL (atL l 8 2) 2 ++ (putL t 2 ++ putL d 2))).length = 14 := by simp [hdP_length, putL_length]
    rw [← List.append_assoc, ← e, List.drop_left]
  rw [t8, d14]
/-- bytes that are laid as they were tell 0 or 20 of what stands behind the name -/
theorem hdB_beh {l : List F} {n : Nat} (h : Hd) (d t : Nat) (hn : 30 ≤ n) (e : hdB h d t = l.take n) : atL l 28 2 = 0 ∨ atL l 28 2 = 20 := by
  have h1 := (hdB_ats h d t []).2.2.2.2.2.2.2.2
  rw [List.append_nil, e, atL_take _ _ _ _ (by omega)] at h1
  rw [h1]
  cases grt h
  · exact .inl rfl
  · exact .inr rfl
/-- of whatever two rows -/
theorem SameA_c (A B : Option Addr) (n m ca cb : Nat) (a b : List F) (w : World) (ha : Row w A n a) (hb : Row w B m b) :
    Calls Tryd.prog 12 #[.slice A n ca, .slice B m cb] w fun e w' => e = .returned (.bool (decide (a = b))) ∧ ∃ q, w' = w.drewN q := by
  by_cases h : n = m
  · subst h
    exact Same_d A B n ca cb a b w ha hb
  · have hne : a ≠ b := fun e => h (by rw [← ha.len, ← hb.len, e])
    rw [decide_eq_false hne]
    refine (Same_len A B n m ca cb w h ha.max hb.max).mono ?_
    rintro e _ ⟨rfl, rfl⟩
    exact ⟨rfl, 0, rfl⟩
theorem RAt_z (A : Option Addr) (n c : Nat) (l : List F) (w : World) (h : RowIn w A n c l) (f s : Nat) (zf zs : Int) (e1 : zf = (f : Int)) (e2 : zs = (s : Int)) (hf : f + s ≤ n) (hn : n ≤ 1000000) :
    Calls Tryd.prog 29 #[.slice A n c, .int .i64 zf, .int .i64 zs] w fun e w' => e = .returned (.int .u64 (atL l f s : Nat)) ∧ w = w' := by
  subst e1 e2
  exact RAt_c A n c l w h f s hf hn
structure BxP (Z : Prop) : Prop where
  out : Z
theorem cut_in {Z T : Prop} (f : BxP Z → T) (z : Z) : T := f ⟨z⟩
/-- what the document's Unpack answers, and what its Pack makes of that -/
theorem un_any (d t : Nat) (hd : d < 65536) (ht : t < 65536) : ∃ (T0 : St) (ok : Bool) (D T : Int) (d' t' : Nat), runV d t = .tuple #[stV T0, .bool ok] ∧ (ok = true → okP (unSt d t) ∧ T0 = unSt d t) ∧ (ok = false → ¬ okP (unSt d t)) ∧ IntKind.u64.wrap D = (d' : Int) ∧ IntKind.u64.wrap T = (t' : Int) ∧ d' < two64 ∧ t' < two64 ∧ StW T0 ∧
    ∀ w, Calls Tryd.prog 38 #[stV T0] w fun e w' => e = .returned (.tuple #[.int .i64 D, .int .i64 T]) ∧ Below w.heap.size w w' := by
  by_cases h : okP (unSt d t)
  · have h1 := datN_lt h.six
    have h2 := timN_lt h.six
    refine ⟨unSt d t, true, datN (unSt d t), timN (unSt d t), datN (unSt d t), timN (unSt d t), if_pos h, fun _ => ⟨h, rfl⟩, (fun e => by cases e), ?_, ?_, ?_, ?_, unSt_wf d t hd ht, fun w => RefPackS_c _ h w⟩
    · show ((datN (unSt d t) : Nat) : Int) % 18446744073709551616 = _; omega
    · show ((timN (unSt d t) : Nat) : Int) % 18446744073709551616 = _; omega
    · unfold two64; omega
    · unfold two64; omega
  · refine ⟨st0, false, -1013760, 0, 18446744073708537856, 0, if_neg h, (fun e => by cases e), fun _ => h, ?_, ?_, ?_, ?_, ⟨by decide, by decide, by decide, by decide, by decide, by decide⟩, fun w => RefPack0_c w⟩
    · show (-1013760 : Int) % 18446744073709551616 = _; omega
    · show (0 : Int) % 18446744073709551616 = _; omega
    · unfold two64; omega
    · unfold two64; omega
end Go.Proofs.YtcclhcbjolelcaaDoor
