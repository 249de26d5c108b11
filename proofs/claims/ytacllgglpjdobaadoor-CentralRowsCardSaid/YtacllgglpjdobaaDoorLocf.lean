/-
  LOCAL HEADERS, WITHOUT ANY PROGRAM: their bytes; what is read of bytes; that the one undoes the other. No conditions.
-/
import Derived.Test.YtacllgglpjdobaaDoorLoce
namespace Go.Proofs.YtacllgglpjdobaaDoor
open Go.RowKit
set_option maxRecDepth 100000
set_option linter.unusedVariables false

def nmF (l : List UInt8) : List F := l
def nmOf (l : List F) : List UInt8 := l
theorem nmOf_nmF (l : List UInt8) : nmOf (nmF l) = l := rfl
theorem nmF_nmOf (l : List F) : nmF (nmOf l) = l := rfl
theorem nmOf_take (a : List UInt8) (X : List F) : nmOf ((nmF a ++ X).take a.length) = a :=
  congrArg nmOf (List.take_left (l₁ := nmF a) (l₂ := X))
def verN (g : Bool) : Nat := if g then 45 else 20
def fulN (g : Bool) (x : Nat) : Nat := if g then 4294967295 else x
def behN (g : Bool) : Nat := if g then 20 else 0
def hd1 (h : Hd) : List (Nat × Nat) := [(67324752, 4), (verN (grt h), 2), (2048, 2), (h.m.toNat, 2)]
def hd2 (h : Hd) (d t : Nat) : List (Nat × Nat) := [(t, 2), (d, 2), (h.sum, 4), (fulN (grt h) h.pk, 4), (fulN (grt h) h.sz, 4)]
def hd3 (h : Hd) : List (Nat × Nat) := [(h.nm.length, 2), (behN (grt h), 2)]
def hd4 (h : Hd) : List (Nat × Nat) := [(1, 2), (16, 2), (h.sz, 8), (h.pk, 8)]
def hdT (h : Hd) : List F := if grt h then nsB (hd4 h) else []
/-- a header's bytes, its stamp told as numbers -/
def hdB (h : Hd) (d t : Nat) : List F := nsB (hd1 h) ++ (nsB (hd2 h d t) ++ (nsB (hd3 h) ++ (nmF h.nm ++ hdT h)))
theorem hdT_length (h : Hd) : (hdT h).length = behN (grt h) := by
  unfold hdT behN
  cases grt h
  · rfl
  · rw [if_pos rfl, if_pos rfl, nsB_length]; rfl
theorem hdB_length (h : Hd) (d t : Nat) : (hdB h d t).length = 30 + h.nm.length + behN (grt h) := by
  unfold hdB
  rw [List.length_append, List.length_append, List.length_append, List.length_append, nsB_length, nsB_length, nsB_length, hdT_length]
  show 10 + (16 + (4 + (h.nm.length + _))) = _
  omega
theorem hdB_flat (h : Hd) (d t : Nat) (X : List F) : hdB h d t ++ X = putL 67324752 4 ++ (putL (verN (grt h)) 2 ++ (putL 2048 2 ++ (putL h.m.toNat 2 ++ (putL t 2 ++ (putL d 2 ++ (putL h.sum 4 ++ (putL (fulN (grt h) h.pk) 4 ++ (putL (fulN (grt h) h.sz) 4 ++ (putL h.nm.length 2 ++ (putL (behN (grt h)) 2 ++ (nmF h.nm ++ (hdT h ++ X)))))))))))) := by
  simp [hdB, hd1, hd2, hd3, nsB, List.append_assoc]
theorem atL_skip (v k : Nat) (X : List F) (f s : Nat) (h : k ≤ f) : atL (putL v k ++ X) f s = atL X (f - k) s := by
  unfold atL
  rw [List.drop_append, putL_length, List.drop_eq_nil_of_le (by rw [putL_length]; exact h), List.nil_append]
theorem atL_past (Y X : List F) (f s : Nat) (h : Y.length ≤ f) : atL (Y ++ X) f s = atL X (f - Y.length) s := by
  unfold atL
  rw [List.drop_append, List.drop_eq_nil_of_le h, List.nil_append]
theorem atL_here (v k : Nat) (X : List F) (h : k ≤ 8) : atL (putL v k ++ X) 0 k = v % 256 ^ k := by
  rw [atL_eq _ _ _ h, List.drop_zero, List.take_append_of_le_length (by rw [putL_length]; exact Nat.le_refl _), List.take_of_length_le (by rw [putL_length]; exact Nat.le_refl _), getL_putL]
theorem atL_take (l : List F) (n f s : Nat) (h : f + s ≤ n) : atL (l.take n) f s = atL l f s := by
  have e : ((l.take n).drop f).take s = (l.drop f).take s := by rw [List.drop_take, List.take_take, Nat.min_eq_left (by omega)]
  unfold atL
  rw [e]
/-- the numbers of a header's bytes -/
theorem hdB_ats (h : Hd) (d t : Nat) (X : List F) : atL (hdB h d t ++ X) 0 4 = 67324752 ∧ atL (hdB h d t ++ X) 8 2 = h.m.toNat % 65536 ∧ atL (hdB h d t ++ X) 10 2 = t % 65536 ∧ atL (hdB h d t ++ X) 12 2 = d % 65536 ∧ atL (hdB h d t ++ X) 14 4 = h.sum % 4294967296
    ∧ atL (hdB h d t ++ X) 18 4 = fulN (grt h) h.pk % 4294967296 ∧ atL (hdB h d t ++ X) 22 4 = fulN (grt h) h.sz % 4294967296 ∧ atL (hdB h d t ++ X) 26 2 = h.nm.length % 65536 ∧ atL (hdB h d t ++ X) 28 2 = behN (grt h) % 65536 := by
  rw [hdB_flat]
  refine ⟨?_, ?_, ?_, ?_, ?_, ?_, ?_, ?_, ?_⟩ <;> simp [atL_skip, atL_here]
theorem hdB_nm (h : Hd) (d t : Nat) (X : List F) : (hdB h d t ++ X).drop 30 = nmF h.nm ++ (hdT h ++ X) := by
  rw [hdB_flat]
  simp [List.drop_append, putL_length, List.drop_eq_nil_of_le]
theorem hdT_ats (h : Hd) (X : List F) (hg : grt h = true) : atL (hdT h ++ X) 4 8 = h.sz % 18446744073709551616 ∧ atL (hdT h ++ X) 12 8 = h.pk % 18446744073709551616 := by
  have e : hdT h ++ X = putL 1 2 ++ (putL 16 2 ++ (putL h.sz 8 ++ (putL h.pk 8 ++ X))) := by
    simp [hdT, hg, hd4, nsB, List.append_assoc]
  rw [e]
  constructor <;> simp [atL_skip, atL_here]
theorem atL_drop (l : List F) (a f s : Nat) : atL (l.drop a) f s = atL l (a + f) s := by
  unfold atL
  rw [List.drop_drop]
theorem hdB_more (h : Hd) (d t : Nat) (X : List F) (hg : grt h = true) : atL (hdB h d t ++ X) (34 + h.nm.length) 8 = h.sz % 18446744073709551616 ∧ atL (hdB h d t ++ X) (42 + h.nm.length) 8 = h.pk % 18446744073709551616 := by
  obtain ⟨h1, h2⟩ := hdT_ats h X hg
  have e1 := atL_drop (hdB h d t ++ X) 30 (4 + h.nm.length) 8
  have e2 := atL_drop (hdB h d t ++ X) 30 (12 + h.nm.length) 8
  rw [hdB_nm, atL_past _ _ _ _ (by show h.nm.length ≤ _; omega)] at e1 e2
  rw [show (4 + h.nm.length) - (nmF h.nm).length = 4 by show 4 + h.nm.length - h.nm.length = 4; omega, h1] at e1
  rw [show (12 + h.nm.length) - (nmF h.nm).length = 12 by show 12 + h.nm.length - h.nm.length = 12; omega, h2] at e2
  rw [show 34 + h.nm.length = 30 + (4 + h.nm.length) by omega, show 42 + h.nm.length = 30 + (12 + h.nm.length) by omega]
  exact ⟨e1.symm, e2.symm⟩
/-- what is read of bytes, but for the stamp -/
def rdH (l : List F) : Hd := ⟨(atL l 8 2 : Nat), st0, atL l 14 4, if atL l 28 2 = 20 then atL l (42 + atL l 26 2) 8 else atL l 18 4, if atL l 28 2 = 20 then atL l (34 + atL l 26 2) 8 else atL l 22 4, nmOf ((l.drop 30).take (atL l 26 2))⟩
def hd0 : Hd := ⟨0, st0, 0, 0, 0, []⟩
def mkT (h : Hd) (t : St) : Hd := ⟨h.m, t, h.sum, h.pk, h.sz, h.nm⟩
/-- what Parse answers -/
def prV (l : List F) : Hd × Nat × Int :=
  if (lnV l).2 ≠ 0 then (hd0, 0, (lnV l).2)
  else if hdB (rdH l) (atL l 12 2) (atL l 10 2) ≠ l.take (lnV l).1 then (hd0, 0, 21)
  else if mthE (rdH l).m ≠ 0 then (hd0, 0, 43)
  else if ¬ okP (unSt (atL l 12 2) (atL l 10 2)) then (hd0, 0, 41)
  else if nokE (rdH l).nm ≠ 0 then (hd0, 0, nokE (rdH l).nm)
  else (mkT (rdH l) (unSt (atL l 12 2) (atL l 10 2)), (lnV l).1, 0)
/-- a header's bytes, its stamp told in it -/
def hdX (h : Hd) : List F := hdB h (datN h.t) (timN h.t)
theorem nok_le {l : List UInt8} (h : nokE l = 0) : l.length ≤ 255 := by
  cases hb : nok l with
  | true => exact ((nok_iff l).1 hb).2.1
  | false => rw [nokE_no hb] at h; omega
theorem lnV_ok {l : List F} {k : Nat} (h4 : atL l 0 4 = 67324752) (hk : tolN l = k) (h30 : 30 ≤ k) (hl : k ≤ l.length) : lnV l = (k, 0) := by
  unfold lnV
  rw [if_neg (by omega), if_neg (by omega), if_neg (by omega), hk]
theorem grt_le {h : Hd} (hg : grt h = false) : h.pk < 4294967295 ∧ h.sz < 4294967295 := by
  unfold grt at hg
  have := of_decide_eq_false hg
  omega
theorem hdB_tol (h : Hd) (d t : Nat) (X : List F) (hn : h.nm.length < 65536) : tolN (hdB h d t ++ X) = (hdB h d t).length := by
  obtain ⟨_, _, _, _, _, _, _, e8, e9⟩ := hdB_ats h d t X
  unfold tolN
  rw [e8, e9, hdB_length]
  have : behN (grt h) ≤ 20 := by unfold behN; split <;> omega
  omega
theorem lnV_hdB (h : Hd) (d t : Nat) (X : List F) (hn : h.nm.length < 65536) : lnV (hdB h d t ++ X) = ((hdB h d t).length, 0) :=
  lnV_ok (hdB_ats h d t X).1 (hdB_tol h d t X hn) (by rw [hdB_length]; omega) (by rw [List.length_append]; omega)
theorem rdH_hdB (h : Hd) (d t : Nat) (X : List F) (hw : HdW h) (hm : h.m = 0 ∨ h.m = 8) (hn : h.nm.length < 65536) : rdH (hdB h d t ++ X) = mkT h st0 := by
  obtain ⟨_, e1, _, _, e4, e5, e6, e8, e9⟩ := hdB_ats h d t X
  unfold rdH mkT
  have hsum := hw.sum
  have hpk := hw.pk
  have hsz := hw.sz
  unfold two64 at hpk hsz
  rw [e1, e4, e5, e6, e8, e9, hdB_nm, Nat.mod_eq_of_lt hn, Nat.mod_eq_of_lt hsum]
  rw [nmOf_take]
  have m1 : ((h.m.toNat % 65536 : Nat) : Int) = h.m := by omega
  rw [m1]
  cases hg : grt h
  · obtain ⟨g1, g2⟩ := grt_le hg
    have b0 : behN false % 65536 ≠ 20 := by decide
    rw [if_neg b0, if_neg b0]
    show (⟨h.m, st0, h.sum, h.pk % 4294967296, h.sz % 4294967296, h.nm⟩ : Hd) = _
    rw [Nat.mod_eq_of_lt (by omega), Nat.mod_eq_of_lt (by omega)]
  · obtain ⟨f1, f2⟩ := hdB_more h d t X hg
    have b0 : behN true % 65536 = 20 := by decide
    rw [if_pos b0, if_pos b0, f1, f2, Nat.mod_eq_of_lt hpk, Nat.mod_eq_of_lt hsz]
theorem hdB_mkT (h : Hd) (s : St) (d t : Nat) : hdB (mkT h s) d t = hdB h d t := rfl
theorem chkH_ok {h : Hd} (hc : chkH h = 0) : (h.m = 0 ∨ h.m = 8) ∧ okP h.t ∧ nokE h.nm = 0 := by
  unfold chkH at hc
  by_cases h1 : h.m = 0 ∨ h.m = 8
  · rw [if_pos h1] at hc
    by_cases h2 : okP h.t
    · rw [if_pos h2] at hc
      exact ⟨h1, h2, hc⟩
    · rw [if_neg h2] at hc; omega
  · rw [if_neg h1] at hc; omega
theorem chkH_of {h : Hd} (h1 : h.m = 0 ∨ h.m = 8) (h2 : okP h.t) (h3 : nokE h.nm = 0) : chkH h = 0 := by
  unfold chkH
  rw [if_pos h1, if_pos h2, h3]
/-- WHAT IS WRITTEN IS PARSED AS IT, whatever stands behind -/
theorem prV_hdX (h : Hd) (X : List F) (hw : HdW h) (hc : chkH h = 0) : prV (hdX h ++ X) = (h, (hdX h).length, 0) := by
  obtain ⟨hm, hok, hnm⟩ := chkH_ok hc
  have hn : h.nm.length < 65536 := by have := nok_le hnm; omega
  have hd := datN_lt hok.six
  have ht := timN_lt hok.six
  obtain ⟨_, _, e2, e3, _, _, _, _, _⟩ := hdB_ats h (datN h.t) (timN h.t) X
  unfold hdX prV
  rw [lnV_hdB h _ _ X hn, rdH_hdB h _ _ X hw hm hn, e2, e3, Nat.mod_eq_of_lt hd, Nat.mod_eq_of_lt ht, un_pack hok.six]
  dsimp only
  have t1 : (hdB h (datN h.t) (timN h.t) ++ X).take (hdB h (datN h.t) (timN h.t)).length = hdB h (datN h.t) (timN h.t) := List.take_left
  have m1 : mthE h.m = 0 := if_pos hm
  rw [if_neg (by decide), t1, if_neg (fun e => e (hdB_mkT h _ _ _)), if_neg (fun e => e m1), if_neg (fun e => e hok), if_neg (fun e => e hnm)]
  rfl
theorem atL_lt2 (l : List F) (f : Nat) : atL l f 2 < 65536 := atL_lt l f 2 (by omega)
theorem atL_lt4 (l : List F) (f : Nat) : atL l f 4 < 4294967296 := atL_lt l f 4 (by omega)
theorem atL_lt8 (l : List F) (f : Nat) : atL l f 8 < two64 := atL_lt l f 8 (by omega)
theorem rdH_wf (l : List F) (s : St) (hs : StW s) : HdW (mkT (rdH l) s) := by
  refine ⟨wfI _ (by have := atL_lt2 l 8; omega), hs, atL_lt4 l 14, ?_, ?_⟩
  · show (if _ then _ else _) < two64
    split
    · exact atL_lt8 _ _
    · have := atL_lt4 l 18; unfold two64; omega
  · show (if _ then _ else _) < two64
    split
    · exact atL_lt8 _ _
    · have := atL_lt4 l 22; unfold two64; omega
theorem lnV_le {l : List F} (h : (lnV l).2 = 0) : (lnV l).1 ≤ l.length ∧ 30 ≤ (lnV l).1 ∧ (lnV l).1 = tolN l ∧ atL l 0 4 = 67324752 := by
  unfold lnV at h ⊢
  split at h
  · exact absurd h (by decide)
  · split at h
    · exact absurd h (by decide)
    · split at h
      · exact absurd h (by decide)
      · rename_i h1 h2 h3
        rw [if_neg h1, if_neg h2, if_neg h3]
        refine ⟨by omega, ?_, rfl, ?_⟩
        · show 30 ≤ tolN l
          unfold tolN; omega
        · by_cases e : atL l 0 4 = 67324752
          · exact e
          · exact absurd (.inr e) h1
theorem unSt_wf (d m : Nat) (hd : d < 65536) (hm : m < 65536) : StW (unSt d m) := by
  refine ⟨?_, ?_, ?_, ?_, ?_, ?_⟩
  · show (Lit.int .i64 (1980 + ((d / 512 : Nat) : Int))).wf = true
    rw [show 1980 + ((d / 512 : Nat) : Int) = ((1980 + d / 512 : Nat) : Int) by omega]
    exact wfI _ (by omega)
  · exact wfI _ (by omega)
  · exact wfI _ (by omega)
  · exact wfI _ (by omega)
  · exact wfI _ (by omega)
  · exact wfI _ (by omega)
/-- WHAT IS PARSED, AND WRITTEN, IS THESE BYTES AGAIN -/
theorem prV_back (l : List F) : ((prV l).2.2 = 0 ∧ HdW (prV l).1 ∧ chkH (prV l).1 = 0 ∧ (prV l).2.1 ≤ l.length ∧ hdX (prV l).1 = l.take (prV l).2.1) ∨ ((prV l).2.2 ≠ 0 ∧ (prV l).1 = hd0 ∧ (prV l).2.1 = 0) := by
  unfold prV
  split
  · rename_i h1
    exact .inr ⟨h1, rfl, rfl⟩
  rename_i h1
  split
  · exact .inr ⟨by decide, rfl, rfl⟩
  rename_i h2
  split
  · exact .inr ⟨by decide, rfl, rfl⟩
  rename_i h3
  split
  · exact .inr ⟨by decide, rfl, rfl⟩
  rename_i h4
  split
  · rename_i h5
    exact .inr ⟨h5, rfl, rfl⟩
  rename_i h5
  have h1' : (lnV l).2 = 0 := by omega
  have h2' : hdB (rdH l) (atL l 12 2) (atL l 10 2) = l.take (lnV l).1 := Decidable.of_not_not h2
  have h4' : okP (unSt (atL l 12 2) (atL l 10 2)) := Decidable.of_not_not h4
  have h5' : nokE (rdH l).nm = 0 := by omega
  have h3' : (rdH l).m = 0 ∨ (rdH l).m = 8 := by
    by_cases e : (rdH l).m = 0 ∨ (rdH l).m = 8
    · exact e
    · have : mthE (rdH l).m = 43 := if_neg e
      omega
  refine .inl ⟨rfl, rdH_wf l _ (unSt_wf _ _ (atL_lt2 l 12) (atL_lt2 l 10)), chkH_of h3' h4' h5', (lnV_le h1').1, ?_⟩
  show hdB (mkT (rdH l) _) (datN (unSt (atL l 12 2) (atL l 10 2))) (timN (unSt (atL l 12 2) (atL l 10 2))) = _
  rw [(pack_un (d := atL l 12 2) (m := atL l 10 2)).1, (pack_un (d := atL l 12 2) (m := atL l 10 2)).2, hdB_mkT]
  exact h2'
/-- fewer bytes are no header -/
theorem prV_cut (h : Hd) (hw : HdW h) (hc : chkH h = 0) (k : Nat) (hk : k < (hdX h).length) : (prV ((hdX h).take k)).2.2 = if k < 4 then 44 else 20 := by
  obtain ⟨hm, hok, hnm⟩ := chkH_ok hc
  have hn : h.nm.length < 65536 := by have := nok_le hnm; omega
  have hl : ((hdX h).take k).length = k := by rw [List.length_take]; omega
  have e0 := hdB_ats h (datN h.t) (timN h.t) []
  rw [List.append_nil] at e0
  have hv : (lnV ((hdX h).take k)).2 = if k < 4 then 44 else 20 := by
    unfold lnV
    rw [hl]
    by_cases h4 : k < 4
    · rw [if_pos (.inl h4), if_pos h4]
    · rw [if_neg h4]
      have e1 : atL ((hdX h).take k) 0 4 = 67324752 := by rw [atL_take _ _ _ _ (by omega)]; exact e0.1
      rw [if_neg (by omega)]
      by_cases h30 : k < 30
      · rw [if_pos h30]
      · rw [if_neg h30]
        have e2 : tolN ((hdX h).take k) = (hdX h).length := by
          have := hdB_tol h (datN h.t) (timN h.t) [] hn
          rw [List.append_nil] at this
          unfold tolN at this ⊢
          rw [atL_take _ _ _ _ (by omega), atL_take _ _ _ _ (by omega)]
          exact this
        rw [e2, if_pos hk]
  unfold prV
  rw [if_pos (by rw [hv]; split <;> decide)]
  exact hv
/-- of two unlike headers the bytes are unlike -/
theorem hdX_inj {a b : Hd} (ha : HdW a) (hb : HdW b) (ca : chkH a = 0) (cb : chkH b = 0) (h : hdX a = hdX b) : a = b := by
  have h1 := prV_hdX a [] ha ca
  have h2 := prV_hdX b [] hb cb
  rw [h, h2] at h1
  exact (congrArg Prod.fst h1).symm
end Go.Proofs.YtacllgglpjdobaaDoor
