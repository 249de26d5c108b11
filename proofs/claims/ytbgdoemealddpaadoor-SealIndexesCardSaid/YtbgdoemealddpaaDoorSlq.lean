/-
  SEALS: what is written is read as it, and back; cut, or turned, it isn't. Of lists alone. No conditions.
-/
import Derived.Test.YtbgdoemealddpaaDoorSlp
import Derived.Test.YtbgdoemealddpaaDoorCrcB
namespace Go.Proofs.YtbgdoemealddpaaDoor
open Go.RowKit
set_option maxRecDepth 100000
set_option linter.unusedVariables false

theorem nsB_one (v s : Nat) : nsB [(v, s)] = putL v s := List.append_nil _
theorem nsB_cons (v s : Nat) (P : List (Nat × Nat)) : nsB ((v, s) :: P) = putL v s ++ nsB P := rfl
theorem partS (l : List F) (f s : Nat) (hs : s ≤ 8) (h : f + s ≤ l.length) : putL (atL l f s) s = (l.drop f).take s := by
  rw [atL_eq _ _ _ hs]
  have e : ((l.drop f).take s).length = s := by simp; omega
  have h2 := putL_getL ((l.drop f).take s)
  rw [e] at h2
  exact h2
theorem atL_front {l : List F} {f s : Nat} (h : f + s ≤ 20) : atL l f s = atL (l.take 20) f s := (atL_take l 20 f s h).symm
theorem front_vals {l : List F} {n k s b i : Nat} (h : l.take 20 = frB n k s b i) (hn : n < 65536) (hk : k < 65536) (hi : i < 65536) (hs : s < 4294967296) (hb : b < 4294967296) :
    20 ≤ l.length ∧ l.take 4 = sgn ∧ atL l 4 2 = 1 ∧ atL l 6 2 = n ∧ atL l 8 2 = k ∧ atL l 10 2 = i ∧ atL l 12 4 = s ∧ atL l 16 4 = b := by
  have hl : (l.take 20).length = 20 := by rw [h, frB_length]
  have hl2 : 20 ≤ l.length := by rw [List.length_take] at hl; omega
  have hf : frB n k s b i = sgn ++ (putL 1 2 ++ (putL n 2 ++ (putL k 2 ++ (putL i 2 ++ (putL s 4 ++ (putL b 4 ++ [])))))) := by
    unfold frB szP
    simp only [List.map_cons, List.map_nil, nsB_cons]
    simp [nsB]
  have hs4 : sgn.length = 4 := rfl
  have p : ∀ f z, 4 ≤ f → f + z ≤ 20 → atL l f z = atL (putL 1 2 ++ (putL n 2 ++ (putL k 2 ++ (putL i 2 ++ (putL s 4 ++ (putL b 4 ++ [])))))) (f - 4) z := fun f z h1 h2 => by
    rw [atL_front h2, h, hf, atL_past sgn _ _ _ (by rw [hs4]; exact h1), hs4]
  refine ⟨hl2, ?_, ?_, ?_, ?_, ?_, ?_, ?_⟩
  · have e : l.take 4 = (l.take 20).take 4 := by rw [List.take_take]; rfl
    rw [e, h, hf]
    rfl
  · rw [p 4 2 (by omega) (by omega), atL_here _ _ _ (by omega)]
  · rw [p 6 2 (by omega) (by omega), atL_skip _ _ _ _ _ (by omega), atL_here _ _ _ (by omega), Nat.mod_eq_of_lt hn]
  · rw [p 8 2 (by omega) (by omega), atL_skip _ _ _ _ _ (by omega), atL_skip _ _ _ _ _ (by omega), atL_here _ _ _ (by omega), Nat.mod_eq_of_lt hk]
  · rw [p 10 2 (by omega) (by omega), atL_skip _ _ _ _ _ (by omega), atL_skip _ _ _ _ _ (by omega), atL_skip _ _ _ _ _ (by omega), atL_here _ _ _ (by omega), Nat.mod_eq_of_lt hi]
  · rw [p 12 4 (by omega) (by omega), atL_skip _ _ _ _ _ (by omega), atL_skip _ _ _ _ _ (by omega), atL_skip _ _ _ _ _ (by omega), atL_skip _ _ _ _ _ (by omega), atL_here _ _ _ (by omega), Nat.mod_eq_of_lt hs]
  · rw [p 16 4 (by omega) (by omega), atL_skip _ _ _ _ _ (by omega), atL_skip _ _ _ _ _ (by omega), atL_skip _ _ _ _ _ (by omega), atL_skip _ _ _ _ _ (by omega), atL_skip _ _ _ _ _ (by omega), atL_here _ _ _ (by omega), Nat.mod_eq_of_lt hb]
/-- right numbers -/
structure RtS (n k s b i : Nat) : Prop where
  r : right23 n k s b = true
  ik : i < k
theorem RtS.bd {n k s b i : Nat} (h : RtS n k s b i) : 1 ≤ n ∧ n + k ≤ 255 ∧ s ≤ 16777216 ∧ 1 ≤ b ∧ b ≤ 16777216 ∧ i < 65536 := by
  have hx := of_decide_eq_true h.r
  have := h.ik
  omega
theorem RtS.rix {n k s b i : Nat} (h : RtS n k s b i) : rix n k s b i = true := by
  have := h.ik
  unfold Go.Proofs.YtbgdoemealddpaaDoor.rix
  rw [h.r, decide_eq_true (by omega : (0 : Int) ≤ i), decide_eq_true (by omega : (i : Int) < k)]
  rfl
theorem prE_of {l : List F} {n k s b i : Nat} (h : l.take 20 = frB n k s b i) (hr : RtS n k s b i) :
    frE l = 0 ∧ qL l = blkN s b ∧ hL l = hdN n k (blkN s b) ∧ prE l = if l.length < hdN n k (blkN s b) then 20 else if ¬ atL l (hdN n k (blkN s b) - 4) 4 = (sum32 (l.take (hdN n k (blkN s b) - 4))).n then 42 else if l.length < hdN n k (blkN s b) + (8 + s) then 20 else if hdN n k (blkN s b) + (8 + s) < l.length then 22 else 0 := by
  have hbd := hr.bd
  obtain ⟨h20, hsg, hv1, hv2, hv3, hv4, hv5, hv6⟩ := front_vals h (by omega) (by omega) (by omega) (by omega) (by omega)
  have hf : frE l = 0 := by
    unfold frE
    rw [if_neg (by intro e; rcases e with e | e; omega; exact e hsg), if_neg (by omega), hv1, hv2, hv3, hv4, hv5, hv6, if_neg (fun e => e ⟨rfl, hr.rix⟩)]
  have hq : qL l = blkN s b := by unfold qL; rw [hv5, hv6]
  have hh : hL l = hdN n k (blkN s b) := by unfold hL; rw [hv2, hv3, hq]
  refine ⟨hf, hq, hh, ?_⟩
  unfold prE
  rw [if_neg (fun e => e hf), hh, hv5]
theorem slB_front (n k s b i : Nat) (R : Nat → List G) (m : Nat) (col : List F) : (slB n k s b i R m col).take 20 = frB n k s b i := by
  unfold slB hxB
  rw [List.append_assoc, List.append_assoc, List.take_append_of_le_length (by rw [frB_length]; exact Nat.le_refl _), List.take_of_length_le (by rw [frB_length]; exact Nat.le_refl _)]
theorem slB_drop20 (n k s b i : Nat) (R : Nat → List G) (m : Nat) (col : List F) : ∃ Y, (slB n k s b i R m col).drop 20 = smB R m ++ Y := by
  unfold slB hxB
  refine ⟨nsB (szP 4 [(sum32 (frB n k s b i ++ smB R m)).n]) ++ col, ?_⟩
  rw [List.append_assoc, List.append_assoc, List.drop_append, frB_length, List.drop_of_length_le (by rw [frB_length]; exact Nat.le_refl _), List.nil_append]
  rfl
theorem smB_split {R : Nat → List G} {q : Nat} : ∀ {m r : Nat}, r < m → ∃ T, smB R m = smB R r ++ (nsB (szP 4 (wsN (R r))) ++ T)
  | m + 1, r, h => by
    by_cases e : r < m
    · obtain ⟨T, hT⟩ := smB_split (q := q) (R := R) e
      refine ⟨T ++ nsB (szP 4 (wsN (R m))), ?_⟩
      show smB R m ++ _ = _
      rw [hT, List.append_assoc, List.append_assoc]
    · obtain rfl : r = m := by omega
      exact ⟨[], by rw [List.append_nil]; rfl⟩
theorem nsB_at (zs : List Nat) (T : List F) {j : Nat} (hj : j < zs.length) (hz : ∀ z ∈ zs, z < 4294967296) : atL (nsB (szP 4 zs) ++ T) (4 * j) 4 = zs[j] := by
  have e : zs = zs.take j ++ (zs[j] :: zs.drop (j + 1)) := by
    conv => lhs; rw [← List.take_append_drop j zs, List.drop_eq_getElem_cons hj]
  have h1 : nsB (szP 4 zs) = nsB (szP 4 (zs.take j)) ++ (putL zs[j] 4 ++ nsB (szP 4 (zs.drop (j + 1)))) := by
    conv => lhs; rw [e]
    unfold szP
    rw [List.map_append, nsB_append]
    rfl
  have hl : (nsB (szP 4 (zs.take j))).length = 4 * j := by
    rw [nsB_length, szP_N, List.length_take]
    omega
  rw [h1, List.append_assoc, atL_past _ _ _ _ (by rw [hl]; exact Nat.le_refl _), hl, Nat.sub_self, List.append_assoc, atL_here _ _ _ (by omega), Nat.mod_eq_of_lt (hz _ (List.getElem_mem hj))]
theorem tdR_smB {R : Nat → List G} {q m r : Nat} (Y : List F) (hR : ∀ r, r < m → (R r).length = q) (hr : r < m) : tdR (smB R m ++ Y) q r = R r := by
  obtain ⟨T, hT⟩ := smB_split (q := q) (R := R) hr
  have hl : (smB R r).length = 4 * (r * q) := by
    rw [smB_length r fun r' h => hR r' (by omega)]
    unfold smN
    rw [← Nat.mul_assoc, Nat.mul_comm]
  have hq := hR r hr
  refine List.ext_getElem (by rw [tdR_length, hq]) fun j h1 h2 => ?_
  have hj : j < q := by rw [tdR_length] at h1; exact h1
  have hw : j < (wsN (R r)).length := by rw [wsN_length]; exact h2
  have e : atL (smB R m ++ Y) (4 * (r * q + j)) 4 = (wsN (R r))[j] := by
    rw [hT, List.append_assoc, atL_past _ _ _ _ (by rw [hl]; omega), hl, List.append_assoc, show 4 * (r * q + j) - 4 * (r * q) = 4 * j by omega]
    exact nsB_at _ _ hw (wsN_lt (R r))
  have e2 : (tdR (smB R m ++ Y) q r)[j] = ofG (atL (smB R m ++ Y) (4 * (r * q + j)) 4) := by simp [tdR]
  rw [e2, e]
  have e3 : (wsN (R r))[j] = ((R r)[j]).n := by simp [wsN]
  rw [e3]
  exact G.ext (ofG_n _ ((R r)[j]).lt)
theorem tdR_slB {n k s b i : Nat} {R : Nat → List G} {m q r : Nat} {col : List F} (hR : ∀ r, r < m → (R r).length = q) (hr : r < m) : tdR ((slB n k s b i R m col).drop 20) q r = R r := by
  obtain ⟨Y, hY⟩ := slB_drop20 n k s b i R m col
  rw [hY]
  exact tdR_smB Y hR hr
theorem slB_parts {n k s b i : Nat} {R : Nat → List G} {col : List F} (hR : ∀ r, r < n + k → (R r).length = blkN s b) :
    (slB n k s b i R (n + k) col).take (hdN n k (blkN s b) - 4) = hxB n k s b i R (n + k) ∧ atL (slB n k s b i R (n + k) col) (hdN n k (blkN s b) - 4) 4 = (sum32 (hxB n k s b i R (n + k))).n ∧ (slB n k s b i R (n + k) col).drop (hdN n k (blkN s b)) = col ∧ (slB n k s b i R (n + k) col).length = hdN n k (blkN s b) + col.length := by
  have hx := hxB_length (n := n) (k := k) (s := s) (b := b) (i := i) hR
  have hh := smN_eq (blkN s b) n k
  have h4 : hdN n k (blkN s b) - 4 = (hxB n k s b i R (n + k)).length := by omega
  have hsl : slB n k s b i R (n + k) col = hxB n k s b i R (n + k) ++ (putL (sum32 (hxB n k s b i R (n + k))).n 4 ++ col) := by
    unfold slB
    rw [show szP 4 [(sum32 (hxB n k s b i R (n + k))).n] = [((sum32 (hxB n k s b i R (n + k))).n, 4)] from rfl, nsB_one, List.append_assoc]
  refine ⟨?_, ?_, ?_, slB_length hR⟩
  · rw [h4, hsl, List.take_append_of_le_length (Nat.le_refl _), List.take_of_length_le (Nat.le_refl _)]
  · rw [h4, hsl, atL_past _ _ _ _ (Nat.le_refl _), Nat.sub_self, atL_here _ _ _ (by omega), Nat.mod_eq_of_lt (sum32 (hxB n k s b i R (n + k))).lt]
  · rw [show hdN n k (blkN s b) = (hxB n k s b i R (n + k)).length + 4 by omega, hsl, List.drop_append, List.drop_of_length_le (by omega), List.nil_append, show (hxB n k s b i R (n + k)).length + 4 - (hxB n k s b i R (n + k)).length = 4 by omega, List.drop_append, List.drop_of_length_le (by rw [putL_length]; exact Nat.le_refl _), putL_length, List.nil_append]
    rfl
/-- what is written is read as it -/
theorem prE_slB {n k s b i : Nat} {R : Nat → List G} {col : List F} (hr : RtS n k s b i) (hR : ∀ r, r < n + k → (R r).length = blkN s b) (hc : col.length = 8 + s) : prE (slB n k s b i R (n + k) col) = 0 := by
  obtain ⟨h1, h2, h3, h4⟩ := slB_parts (i := i) (col := col) hR
  obtain ⟨_, _, _, hp⟩ := prE_of (slB_front n k s b i R (n + k) col) hr
  rw [hp, h1, h2, h4, hc, if_neg (by omega), if_neg (fun e => e rfl), if_neg (by omega), if_neg (by omega)]
theorem prE_fr0 {l : List F} (h : prE l = 0) : frE l = 0 := Decidable.byContradiction fun e => by
  unfold prE at h
  rw [if_pos e] at h
  exact e h
/-- fewer bytes are none -/
theorem prE_cut {n k s b i : Nat} {R : Nat → List G} {col : List F} (hr : RtS n k s b i) (hR : ∀ r, r < n + k → (R r).length = blkN s b) (hc : col.length = 8 + s) {m : Nat} (hm : m < (slB n k s b i R (n + k) col).length) : ¬ prE ((slB n k s b i R (n + k) col).take m) = 0 := by
  intro h
  have hl : ((slB n k s b i R (n + k) col).take m).length = m := by rw [List.length_take]; omega
  have h20 := (frE_zero (prE_fr0 h)).1
  rw [hl] at h20
  obtain ⟨_, _, _, h4⟩ := slB_parts (i := i) (col := col) hR
  have hfr : ((slB n k s b i R (n + k) col).take m).take 20 = frB n k s b i := by
    rw [List.take_take, Nat.min_eq_left h20]
    exact slB_front n k s b i R (n + k) col
  obtain ⟨_, _, _, hp⟩ := prE_of hfr hr
  rw [hp, hl] at h
  split at h
  · cases h
  · split at h
    · cases h
    · rw [if_pos (by omega)] at h
      cases h
/-- one byte more is one too many -/
theorem prE_more {n k s b i : Nat} {R : Nat → List G} {col : List F} (hr : RtS n k s b i) (hR : ∀ r, r < n + k → (R r).length = blkN s b) (hc : col.length = 8 + s) (x : F) : prE (slB n k s b i R (n + k) col ++ [x]) = 22 := by
  obtain ⟨h1, h2, h3, h4⟩ := slB_parts (i := i) (col := col) hR
  have hh := smN_eq (blkN s b) n k
  have h20 : 20 ≤ (slB n k s b i R (n + k) col).length := by omega
  have hfr : (slB n k s b i R (n + k) col ++ [x]).take 20 = frB n k s b i := by
    rw [List.take_append_of_le_length h20]
    exact slB_front n k s b i R (n + k) col
  obtain ⟨_, _, _, hp⟩ := prE_of hfr hr
  have ht : (slB n k s b i R (n + k) col ++ [x]).take (hdN n k (blkN s b) - 4) = hxB n k s b i R (n + k) := by
    rw [List.take_append_of_le_length (by omega)]
    exact h1
  have ha : atL (slB n k s b i R (n + k) col ++ [x]) (hdN n k (blkN s b) - 4) 4 = (sum32 (hxB n k s b i R (n + k))).n := by
    rw [← atL_take _ (slB n k s b i R (n + k) col).length _ _ (by omega), List.take_append_of_le_length (Nat.le_refl _), List.take_of_length_le (Nat.le_refl _)]
    exact h2
  rw [hp, ht, ha, if_neg (by rw [List.length_append, h4]; omega), if_neg (fun e => e rfl), List.length_append, h4, hc, if_neg (by rw [List.length_singleton]; omega), if_pos (by rw [List.length_singleton]; omega)]
/-- the bytes ahead of a place, a row of sums for each -/
theorem smB_tdR (X : List F) (q : Nat) : ∀ m, m * (q * 4) ≤ X.length → smB (tdR X q) m = X.take (m * (q * 4))
  | 0, _ => by simp [smB]
  | m + 1, h => by
    rw [Nat.add_mul, Nat.one_mul] at h
    show smB (tdR X q) m ++ nsB (szP 4 (wsN (tdR X q m))) = _
    rw [smB_tdR X q m (by omega), Nat.add_mul, Nat.one_mul, List.take_add]
    congr 1
    have key : ∀ j, j ≤ q → nsB (szP 4 ((wsN (tdR X q m)).take j)) = (X.drop (m * (q * 4))).take (j * 4) := fun j => by
      induction j with
      | zero => intro _; simp [szP, nsB]
      | succ j ih =>
        intro hj
        have hw : j < (wsN (tdR X q m)).length := by rw [wsN_length, tdR_length]; omega
        have e : (wsN (tdR X q m))[j] = atL X (4 * (m * q + j)) 4 := by
          simp [wsN, tdR, ofG_n _ (atL_lt4 X (4 * (m * q + j)))]
        have hjq : (j + 1) * 4 ≤ q * 4 := Nat.mul_le_mul_right _ hj
        have hmq : 4 * (m * q + j) = m * (q * 4) + j * 4 := by rw [← Nat.mul_assoc]; omega
        rw [List.take_succ_eq_append_getElem hw]
        unfold szP
        rw [List.map_append, nsB_append]
        show nsB (szP 4 _) ++ (putL _ 4 ++ []) = _
        rw [ih (by omega), List.append_nil, e, partS _ _ _ (by omega) (by omega), Nat.add_mul, Nat.one_mul, List.take_add, List.drop_drop, hmq]
    have h3 := key q (Nat.le_refl _)
    rw [List.take_of_length_le (by rw [wsN_length, tdR_length]; exact Nat.le_refl _)] at h3
    exact h3
/-- what is read, and written, is these bytes again -/
theorem slB_prE {l : List F} (h : prE l = 0) : slB (atL l 6 2) (atL l 8 2) (atL l 12 4) (atL l 16 4) (atL l 10 2) (tdR (l.drop 20) (qL l)) (atL l 6 2 + atL l 8 2) (l.drop (hL l)) = l ∧ RtS (atL l 6 2) (atL l 8 2) (atL l 12 4) (atL l 16 4) (atL l 10 2) ∧ l.length = hL l + (8 + atL l 12 4) := by
  have hf := prE_fr0 h
  obtain ⟨h20, hv1, hrx, hsg⟩ := frE_zero hf
  obtain ⟨hr, _, hik⟩ := rix_parts hrx
  have hlen := h
  unfold prE at hlen
  rw [if_neg (fun e => e hf)] at hlen
  split at hlen
  · cases hlen
  rename_i c1
  split at hlen
  · cases hlen
  rename_i c2
  split at hlen
  · cases hlen
  rename_i c3
  split at hlen
  · cases hlen
  rename_i c4
  have c2 := Decidable.not_not.1 c2
  have hL9 : l.length = hL l + (8 + atL l 12 4) := by omega
  have hh := smN_eq (qL l) (atL l 6 2) (atL l 8 2)
  change _ = hL l at hh
  have e20 : frB (atL l 6 2) (atL l 8 2) (atL l 12 4) (atL l 16 4) (atL l 10 2) = l.take 20 := by
    unfold frB szP
    simp only [List.map_cons, List.map_nil, nsB_cons]
    rw [← hv1, partS l 4 2 (by omega) (by omega), partS l 6 2 (by omega) (by omega), partS l 8 2 (by omega) (by omega), partS l 10 2 (by omega) (by omega), partS l 12 4 (by omega) (by omega), partS l 16 4 (by omega) (by omega), ← hsg]
    show ((l.take 4) ++ ((l.drop 4).take 2 ++ ((l.drop 6).take 2 ++ ((l.drop 8).take 2 ++ ((l.drop 10).take 2 ++ []))))) ++ ((l.drop 12).take 4 ++ ((l.drop 16).take 4 ++ [])) = _
    have hj : ∀ a c, l.take (a + c) = l.take a ++ (l.drop a).take c := fun a c => List.take_add
    rw [show (20 : Nat) = 16 + 4 from rfl, hj 16 4, show (16 : Nat) = 12 + 4 from rfl, hj 12 4, show (12 : Nat) = 10 + 2 from rfl, hj 10 2, show (10 : Nat) = 8 + 2 from rfl, hj 8 2, show (8 : Nat) = 6 + 2 from rfl, hj 6 2, show (6 : Nat) = 4 + 2 from rfl, hj 4 2]
    simp
  have hsm := smB_tdR (l.drop 20) (qL l) (atL l 6 2 + atL l 8 2) (by rw [List.length_drop]; unfold smN at hh; omega)
  have hhx : hxB (atL l 6 2) (atL l 8 2) (atL l 12 4) (atL l 16 4) (atL l 10 2) (tdR (l.drop 20) (qL l)) (atL l 6 2 + atL l 8 2) = l.take (hL l - 4) := by
    unfold hxB
    rw [e20, hsm, ← List.take_add]
    congr 1
    unfold smN at hh
    omega
  refine ⟨?_, ⟨hr, by omega⟩, hL9⟩
  unfold slB
  rw [hhx, ← c2, show szP 4 [atL l (hL l - 4) 4] = [(atL l (hL l - 4) 4, 4)] from rfl, nsB_one, partS l _ _ (by omega) (by omega), ← List.take_add, show hL l - 4 + 4 = hL l by omega, List.take_append_drop]
/-- another index, other sums: other bytes -/
theorem slB_index {n k s b i j : Nat} {R R' : Nat → List G} {m : Nat} {col col' : List F} (hi : i < 65536) (hj : j < 65536) (h : slB n k s b i R m col = slB n k s b j R' m col') : i = j := by
  have h1 := slB_front n k s b i R m col
  rw [h, slB_front] at h1
  have key : ∀ i, i < 65536 → atL (frB n k s b i) 10 2 = i := fun i hi => by
    have hf : frB n k s b i = sgn ++ (putL 1 2 ++ (putL n 2 ++ (putL k 2 ++ (putL i 2 ++ (putL s 4 ++ (putL b 4 ++ [])))))) := by
      unfold frB szP
      simp only [List.map_cons, List.map_nil, nsB_cons]
      simp [nsB]
    have hs4 : sgn.length = 4 := rfl
    rw [hf, atL_past sgn _ _ _ (by rw [hs4]; omega), hs4, atL_skip _ _ _ _ _ (by omega), atL_skip _ _ _ _ _ (by omega), atL_skip _ _ _ _ _ (by omega), atL_here _ _ _ (by omega), Nat.mod_eq_of_lt hi]
  have h2 : atL (frB n k s b j) 10 2 = atL (frB n k s b i) 10 2 := congrArg (fun l => atL l 10 2) h1
  rw [key _ hi, key _ hj] at h2
  exact h2.symm
theorem slB_sums {n k s b i : Nat} {R R' : Nat → List G} {m q : Nat} {col col' : List F} (hR : ∀ r, r < m → (R r).length = q) (hR' : ∀ r, r < m → (R' r).length = q) (h : slB n k s b i R m col = slB n k s b i R' m col') : ∀ r, r < m → R r = R' r := fun r hr => by
  rw [← tdR_slB (n := n) (k := k) (s := s) (b := b) (i := i) (col := col) hR hr, ← tdR_slB (n := n) (k := k) (s := s) (b := b) (i := i) (col := col') hR' hr, h]
theorem putL_le4 (x : G) : putL x.n 4 = le4 x := by
  show [ofN (x.n / 256 ^ 0 % 256), ofN (x.n / 256 ^ 1 % 256), ofN (x.n / 256 ^ 2 % 256), ofN (x.n / 256 ^ 3 % 256)] = _
  rw [Nat.pow_zero, Nat.div_one]
  rfl
theorem flips_take (l : List F) (a : Nat) (t : G) (H : Nat) : ∀ m, a + m ≤ 8 * H → (flips l a t m).take H = flips (l.take H) a t m
  | 0, _ => rfl
  | m + 1, h => by
    have ih := flips_take l a t H m (by omega)
    have hk : (a + m) / 8 < H := by omega
    unfold flips
    by_cases e : bitG t m = true
    · rw [if_pos e, if_pos e]
      unfold flip
      rw [← ih, List.take_set]
      congr 2
      simp only [List.getD_eq_getElem?_getD, List.getElem?_take, if_pos hk]
    · rw [if_neg e, if_neg e, ih]
theorem flips_front (l : List F) (a : Nat) (t : G) (H : Nat) (ha : 8 * H ≤ a) : ∀ m, (flips l a t m).take H = l.take H
  | 0 => rfl
  | m + 1 => by
    have ih := flips_front l a t H ha m
    unfold flips
    by_cases e : bitG t m = true
    · rw [if_pos e]
      unfold flip
      rw [List.take_set, List.set_eq_of_length_le (by rw [List.length_take]; omega), ih]
    · rw [if_neg e, ih]
theorem sum_whole {l : List F} {H : Nat} (hH : 4 ≤ H) (hl : H ≤ l.length) (h : atL l (H - 4) 4 = (sum32 (l.take (H - 4))).n) : sum32 (l.take H) = ofG 558161692 := by
  have e : l.take H = l.take (H - 4) ++ le4 (sum32 (l.take (H - 4))) := by
    rw [← putL_le4, ← h, partS _ _ _ (by omega) (by omega), ← List.take_add, Nat.sub_add_cancel hH]
  rw [e]
  have h2 := sum_behind (l.take (H - 4))
  unfold sum32 at h2 ⊢
  rw [upd_append]
  exact h2
/-- a head that is turned is none -/
theorem prE_turn {n k s b i : Nat} {R : Nat → List G} {col : List F} (hr : RtS n k s b i) (hR : ∀ r, r < n + k → (R r).length = blkN s b) (hc : col.length = 8 + s) {a : Nat} {t : G} (ht : t ≠ 0) (ha : 160 ≤ a) (ha2 : a + 32 ≤ 8 * hdN n k (blkN s b)) :
    ¬ prE (flips (slB n k s b i R (n + k) col) a t 32) = 0 := by
  intro h
  obtain ⟨h1, h2, h3, h4⟩ := slB_parts (i := i) (col := col) hR
  have hfr : (flips (slB n k s b i R (n + k) col) a t 32).take 20 = frB n k s b i := by
    rw [flips_front _ _ _ _ (by omega)]
    exact slB_front n k s b i R (n + k) col
  obtain ⟨_, _, _, hp⟩ := prE_of hfr hr
  rw [hp] at h
  have hl := flips_length (slB n k s b i R (n + k) col) a t 32
  split at h
  · cases h
  split at h
  · cases h
  rename_i c2
  have c2 := Decidable.not_not.1 c2
  have hh := smN_eq (blkN s b) n k
  have e1 := sum_whole (H := hdN n k (blkN s b)) (by omega) (by rw [hl, h4]; omega) c2
  have e2 := sum_whole (l := slB n k s b i R (n + k) col) (H := hdN n k (blkN s b)) (by omega) (by rw [h4]; omega) (by rw [h1]; exact h2)
  rw [flips_take _ _ _ _ _ (by omega)] at e1
  exact sum_flips ((slB n k s b i R (n + k) col).take (hdN n k (blkN s b))) a t (by rw [List.length_take, h4]; omega) ht (e1.trans e2.symm)
end Go.Proofs.YtbgdoemealddpaaDoor
