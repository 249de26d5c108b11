/-
  THE SYMBOLS THAT COME, THE RAREST FIRST. No conditions but how many there are.
  COSTS, AND WHAT IS WRONG WITH FREQUENCIES: the code's and the document's. No conditions but how many symbols there are.
  HOW MANY LEAVES ARE BOUGHT ON EACH TIER. No conditions but how many symbols there are.
  THE CONTRACT OF lengths.Make: which length each symbol gets, or what is wrong. No conditions.
  WHAT IS MADE: full, least, the rarer the longer; and the error. No conditions.
-/
import Derived.Test.YtldgdofefcehnaaGreatDoorLenW
import Derived.Deep.AppendLies
import Derived.RangeFuncBox
import Derived.Test.YtldgdofefcehnaaGreatDoorCanD
import Derived.Lib.MinMax
import Derived.Deep.QuietTactic
import Derived.Deep.RegionHeld3
import Derived.IntWalk
import Derived.Test.YtldgdofefcehnaaGreatDoorLenE
namespace Go.Proofs.YtldgdofefcehnaaGreatDoor
section
open Go.RowKit
set_option maxRecDepth 100000
set_option linter.unusedVariables false
def comeN (fr : List Int) : Nat → List Nat
 | 0 => []
 | k + 1 => comeN fr k ++ (if 0 < gi fr k then [k] else [])
def iN (l : List Nat) : List Value := l.map fun x => .int .i64 ((x : Nat) : Int)
theorem iN_append (l m : List Nat) : iN (l ++ m) = iN l ++ iN m := by simp [iN]
theorem comeN_mem (fr : List Int) (k : Nat) : ∀ x ∈ comeN fr k, x < k ∧ 0 < gi fr x := by
 induction k with
 | zero => intro x hx; cases hx
 | succ k ih =>
  intro x hx
  unfold comeN at hx
  rcases List.mem_append.1 hx with h | h
  ·exact ⟨by have := (ih x h).1; omega, (ih x h).2⟩
  ·split at h
   ·rename_i h1
    rw [List.mem_singleton] at h
    subst h
    exact ⟨by omega, h1⟩
   ·cases h
theorem comeN_count (fr : List Int) (v k : Nat) : (comeN fr k).count v = if v < k ∧ 0 < gi fr v then 1 else 0 := by
 induction k with
 | zero => simp [comeN]
 | succ k ih =>
  unfold comeN
  rw [List.count_append, ih]
  by_cases h : 0 < gi fr k
  ·rw [if_pos h]
   by_cases e : v = k
   ·subst e
    rw [if_neg (by omega), if_pos ⟨by omega, h⟩]
    simp
   ·have : List.count v [k] = 0 := by rw [List.count_singleton]; simp; omega
    rw [this, Nat.add_zero]
    congr 1
    simp only [eq_iff_iff]
    exact ⟨fun h => ⟨by omega, h.2⟩, fun h => ⟨by omega, h.2⟩⟩
  ·rw [if_neg h, List.count_nil, Nat.add_zero]
   congr 1
   simp only [eq_iff_iff]
   refine ⟨fun h => ⟨by omega, h.2⟩, fun h1 => ⟨?_, h1.2⟩⟩
   rcases (show v < k ∨ v = k by omega) with h2 | rfl
   ·exact h2
   ·exact absurd h1.2 h
theorem cnD_count (l : List Nat) (v : Nat) : ∀ k, k ≤ l.length → cnD (fun i => l.getD i 0) v k = (l.take k).count v := by
 intro k
 induction k with
 | zero => intro _; simp [cnD]
 | succ k ih =>
  intro hk
  rw [cnD_succ, ih (by omega), List.take_succ_eq_append_getElem (by omega), List.count_append]
  congr 1
  rw [List.count_singleton, List.getD_eq_getElem?_getD, List.getElem?_eq_getElem (by omega)]
  simp
def keyT (fr : List Int) (x : Nat) : Int := gi fr x * 1024 + (min x 1023 : Nat)
theorem keyT_agr (fr : List Int) : ∀ x y, y < x → (gi fr x < gi fr y ↔ keyT fr x < keyT fr y) := fun x y h => by unfold keyT; omega
theorem keyT_le {fr : List Int} {x y : Nat} (h : keyT fr x ≤ keyT fr y) : gi fr x ≤ gi fr y := by unfold keyT at h; omega
theorem keyT_inj {fr : List Int} {x y : Nat} (hx : x ≤ 1000) (hy : y ≤ 1000) (h : keyT fr x = keyT fr y) : x = y := by unfold keyT at h; omega
theorem comeN_inc (fr : List Int) : ∀ k x y, x < y → y < (comeN fr k).length → (comeN fr k).getD x 0 < (comeN fr k).getD y 0 := by
 intro k
 induction k with
 | zero => intro x y _ h; exact absurd h (by simp [comeN])
 | succ k ih =>
  intro x y h1 h2
  have hm : ∀ x, x < (comeN fr k).length → (comeN fr k).getD x 0 < k := fun x hx => by
   rw [List.getD_eq_getElem?_getD, List.getElem?_eq_getElem hx]
   exact (comeN_mem fr k _ (List.getElem_mem hx)).1
  unfold comeN at h2 ⊢
  split at h2
  ·rename_i h3
   rw [if_pos h3]
   rw [List.length_append, List.length_singleton] at h2
   have gap : ∀ i, i < (comeN fr k).length → (comeN fr k ++ [k]).getD i 0 = (comeN fr k).getD i 0 := fun i hi => by
    rw [List.getD_eq_getElem?_getD, List.getElem?_append_left hi, List.getD_eq_getElem?_getD]
   by_cases hy : y < (comeN fr k).length
   ·have := ih x y h1 hy
    rw [gap x (by omega), gap y hy]
    exact this
   ·obtain rfl : y = (comeN fr k).length := by omega
    rw [gap x h1, List.getD_eq_getElem?_getD (i := (comeN fr k).length), List.getElem?_append_right (Nat.le_refl _), Nat.sub_self]
    exact hm x h1
  ·rename_i h3
   rw [if_neg h3]
   rw [List.append_nil] at h2 ⊢
   exact ih x y h1 h2
structure Come (fr : List Int) (n m : Nat) (d : Nat → Nat) : Prop where
 le : m ≤ n
 sym : ∀ i, i < m → d i < n
 srt : SrtI (gi fr) d 0 m
 cnt : ∀ v, cnD d v m = if v < n ∧ 0 < gi fr v then 1 else 0
 srt2 : SrtI (keyT fr) d 0 m
def lsD (d : Nat → Nat) (m : Nat) : List Int := (List.range m).map fun i => ((d i : Nat) : Int)
theorem lsD_at (d : Nat → Nat) {m i : Nat} (h : i < m) : gi (lsD d m) i = (d i : Nat) := by
 unfold gi lsD
 simp [List.getD_eq_getElem?_getD, h]
theorem lsD_length (d : Nat → Nat) (m : Nat) : (lsD d m).length = m := by simp [lsD]
theorem IRow.ofD {w : World} {g m n : Nat} {d : Nat → Nat} (h : DRow w g m d) (hs : ∀ i, i < m → d i < n) (hn : n ≤ 1000) (hm : m ≤ 1000) : IRow w (some ⟨g, 0, none⟩) m .i64 (lsD d m) := by
 refine ⟨lsD_length d m, by unfold maxLen; omega, fun _ => ⟨g, 0, rfl, RowV.lt h, fun i hi => ?_⟩, fun i hi => ?_⟩
 ·rw [Nat.zero_add, RowV.cell h hi, lsD_at d hi]
 ·rw [lsD_at d hi]
  have := hs i hi
  have hmin : IntKind.i64.min = -9223372036854775808 := rfl
  have hmax : IntKind.i64.max = 9223372036854775807 := rfl
  simp only [Lit.wf, Bool.and_eq_true, decide_eq_true_eq]
  omega
theorem info_intL : (Tryz.prog.info? 3).map (fun i => (i.zero, i.size, i.bytes)) = some (some (.int .i64 0), 1, 8) := by kernel_rfl
theorem one_cellI (w : World) (x : Nat) : ∀ j u, (iN [x])[j]? = some u → (w.alloc (.cells #[.int .i64 (x : Nat)] 3)).cell? ((⟨w.heap.size, 0, none⟩ : Addr).add j) = some u := by
 have h := World.news_of_block (cs := #[.int .i64 (x : Nat)]) (t := 3) (fr := (0, 0)) (heap_alloc_new w (.cells #[.int .i64 (x : Nat)] 3))
 exact h
theorem iN_one (l : List Nat) : ∀ u ∈ iN l, u.oneCell' = true := by
 intro u hu
 obtain ⟨x, _, rfl⟩ := List.mem_map.1 hu
 rfl
theorem insertNone_c (F : Value) (w : World) : Calls Tryz.prog 175 #[.slice none 0 0, .int .i64 0, .int .i64 0, F] w fun e w' => e = .returned (.tuple #[]) ∧ w = w' := by
 go_enter Tryz.func175, Tryz.ntmps175
 go_wp2
 go_loop [8] (fun i => i = .int .i64 1) (fun _ => 0)
 case atStart => rfl
 case round =>
  obtain rfl := hrel
  go_wp2
  go_end0
  exact ⟨rfl, rfl⟩
set_option maxHeartbeats 1000000 in
theorem stableNone_c (F : Value) (w : World) : Calls Tryz.prog 156 #[.slice none 0 0, .int .i64 0, F] w fun e w' => e = .returned (.tuple #[]) ∧ w = w' := by
 go_enter Tryz.func156, Tryz.ntmps156
 go_wp2
 go_loop [7, 8] (fun a b => a = .int .i64 0 ∧ b = .int .i64 20) (fun _ _ => 0)
 case atStart => exact ⟨rfl, rfl⟩
 case round =>
  obtain ⟨rfl, rfl⟩ := hrel
  go_wp2_with fail
  refine (insertNone_c _ w).mono ?_
  rintro e w' ⟨rfl, rfl⟩
  go_wp2
  go_loop [6] (fun a => a = .int .i64 20) (fun _ => 0)
  case atStart => rfl
  case round =>
   obtain rfl := hrel
   go_wp2
   go_end0
   exact ⟨rfl, rfl⟩
theorem SortNone_c (F : Value) (w : World) : Calls Tryz.prog 119 #[.slice none 0 0, F] w fun e w' => e = .returned (.tuple #[]) ∧ w = w' := by
 go_enter Tryz.func119, Tryz.ntmps119
 go_wp2_with fail
 refine (stableNone_c _ w).mono ?_
 rintro e w' ⟨rfl, rfl⟩
 go_wp2
 go_end0
 exact ⟨rfl, rfl⟩
set_option maxHeartbeats 2000000 in
theorem rarestFirst_c (FA : Option Addr) (n cf : Nat) (fr : List Int) (w : World) (hf : IRow w FA n .i64 fr) (hn : n ≤ 300) :
  Calls Tryz.prog 73 #[.slice FA n cf] w fun e w' => ∃ O c d m, e = .returned (.slice O m c) ∧ m = (comeN fr n).length ∧ m ≤ c ∧ IRow w' O m .i64 (lsD d m) ∧ Come fr n m d ∧ Below w.heap.size w w' := by
 obtain ⟨i0, hi, hz0, hz1, hz2⟩ := info_parts info_intL
 go_enter Tryz.func73, Tryz.ntmps73
 go_wp2
 obtain ⟨w1, hw1⟩ : ∃ w1, w1 = w.alloc (.cells #[.slice FA n cf] 49) := ⟨_, rfl⟩
 have hb1 : Below w.heap.size w w1 := by rw [hw1]; exact (Below.refl _ _).alloc (Nat.le_refl _) _
 have hbox : Boxed w1 w.heap.size 49 (.slice FA n cf) := by rw [hw1]; exact Boxed.new _ _ _
 have hsz1 : w1.heap.size = w.heap.size + 1 := by rw [hw1]; simp
 rw [← hw1]
 clear hw1
 have hn0 : (n : Int) ≤ 300 := by omega
 go_loopw [3, 8] (fun va vk wr => ∃ (k m : Nat), k ≤ n ∧ m ≤ k ∧ vk = .int .i64 k ∧ Hid (m = (comeN fr k).length) ∧ wr.ownsRow (w.heap.size + 1) 3 1 va m (iN (comeN fr k)) ∧ Boxed wr w.heap.size 49 (.slice FA n cf) ∧ Below w.heap.size w wr)
  (fun _ vk _ => n - (intOf vk).toNat)
 case atStart => exact ⟨0, 0, by omega, by omega, rfl, rfl, World.ownsRow_nil _ _ _ _, hbox, hb1⟩
 case round =>
  obtain ⟨k, m, hk, hmk, rfl, hm, hown, hbx, hbel⟩ := hrel
  by_cases hlt : k < n
  ·have hkn : (k : Int) < n := by omega
   obtain ⟨b1, o1, rfl, l1, h1⟩ := (hf.below hbel).at_ hlt
   by_cases hpos : 0 < gi fr k
   ·have hc : Hid (comeN fr (k + 1) = comeN fr k ++ [k]) := by
     unfold Hid
     show comeN fr k ++ (if 0 < gi fr k then [k] else []) = _
     rw [if_pos hpos]
    have hs9 : w.heap.size + 1 ≤ wr.heap.size := by have := hbx.lt; omega
    generalize gi fr k = x at *
    go_wp2_with (at_builtin; refine wpList_append_own _ rfl _ _ 49 rfl (w.heap.size + 1) 3 i0 (.int .i64 0) 1 8 Tryz.underlying49 hi hz0 hz1 hz2 rfl (by decide) _ m (iN (comeN fr k)) rfl (hown.alloc _) ⟨wr.heap.size, 0, none⟩ 1 1 (iN [k]) rfl rfl (one_cellI wr k) (iN_one _) (by unfold maxLen; omega) (by omega) (by simp; omega) ?_; intro v' w5 hown5 hgrow hnil)
    go_wp2
    go_roundw
    case rel =>
     refine ⟨k + 1, m + 1, by omega, by omega, by go_num, by unfold Hid; rw [hc.out, List.length_append, ← hm.out]; rfl, by rw [hc.out, iN_append]; exact hown5, ?_, (hbel.alloc hbel.size _).grown hgrow (by simp; omega) (fun j hj => by have := (hown.lt j hj).1; omega)⟩
     exact Boxed.kept (hbx.alloc _) hgrow (fun e => by have := (hown.lt _ e.symm).1; omega)
    case measure => simp [intOf]; omega
   ·have hc : Hid (comeN fr (k + 1) = comeN fr k) := by
     unfold Hid
     show comeN fr k ++ (if 0 < gi fr k then [k] else []) = _
     rw [if_neg hpos, List.append_nil]
    generalize gi fr k = x at *
    go_wp2
    go_roundw
    case rel => exact ⟨k + 1, m, by omega, by omega, by go_num, by unfold Hid; rw [hc.out]; exact hm.out, by rw [hc.out]; exact hown, hbx, hbel⟩
    case measure => simp [intOf]; omega
  ·obtain rfl : k = n := by omega
   have hkn : ¬ (k : Int) < (k : Int) := by omega
   have hcnt : ∀ v, cnD (fun i => (comeN fr k).getD i 0) v m = if v < k ∧ 0 < gi fr v then 1 else 0 := fun v => by
    rw [cnD_count _ _ m (by rw [hm.out]; exact Nat.le_refl _), hm.out, List.take_length, comeN_count]
   rcases hown.2 with ⟨hv, h0⟩ | ⟨g, cap, cur, hv, hbg, hgc, hmc, hcm, hcs, htk⟩
   ·subst hv
    have HCN := Lib.hid hcnt
    have HM0 := Lib.hid h0
    clear hcnt
    go_wp2_with fail
    refine (SortNone_c _ _).mono ?_
    rintro e w' ⟨rfl, rfl⟩
    go_wp2
    go_ret
    obtain rfl := h0
    exact ⟨none, 0, fun _ => 0, 0, rfl, hm.out, Nat.le_refl _, ⟨rfl, by unfold maxLen; omega, fun h => absurd h (by omega), fun i hi => by omega⟩, ⟨by omega, fun i hi => by omega, fun i j h1 h2 h3 => by omega, fun v => by
     have := HCN.out v
     simpa [cnD] using this, fun i j h1 h2 h3 => by omega⟩, hbel⟩
   ·subst hv
    have hsym : ∀ i, i < m → (comeN fr k).getD i 0 < k := fun i hi => by
     have hl : i < (comeN fr k).length := by rw [← hm.out]; exact hi
     rw [List.getD_eq_getElem?_getD, List.getElem?_eq_getElem hl]
     exact (comeN_mem fr k _ (List.getElem_mem hl)).1
    have hinc : ∀ x y, x < y → y < m → (fun i => (comeN fr k).getD i 0) x < (fun i => (comeN fr k).getD i 0) y := fun x y h1 h2 => comeN_inc fr k x y h1 (by rw [← hm.out]; exact h2)
    have hrow : DRow wr g m (fun i => (comeN fr k).getD i 0) := by
     refine RowV.congr (RowV.own hown) fun i hi => ?_
     have hl : i < (comeN fr k).length := by rw [← hm.out]; exact hi
     unfold iN
     simp [List.getD_eq_getElem?_getD, hl]
    have hctx : CtxS wr g m w.heap.size FA k cf fr (fun i => (comeN fr k).getD i 0) := by
     refine ⟨hrow, ⟨hbx.cell, hf.below hbel, hbx.lt⟩, ⟨by omega, fun h0 b o e => ?_⟩, hsym⟩
     obtain ⟨b', o', e', hl', _⟩ := hf.cells h0
     rw [e] at e'
     injection e' with e'
     injection e' with e' _
     omega
    have HS := Lib.hid (SortStable_c (cg := cap) (keyT_agr fr) hinc hctx (by omega))
    have HCN := Lib.hid hcnt
    have HSY := Lib.hid hsym
    clear hcnt hsym hrow hctx hinc
    go_wp2_with fail
    refine HS.out.mono ?_
    rintro e w' ⟨d', rfl, hctx2, hsame, hsrt, hout⟩
    go_wp2
    go_ret
    have hsym2 := hsame.sym (Nat.le_refl _) HSY.out
    refine ⟨_, cap, d', m, rfl, hm.out, hmc, IRow.ofD hctx2.row hsym2 (by omega) (by omega), ⟨by omega, hsym2, fun i j h1 h2 h3 => keyT_le (hsrt i j h1 h2 h3), fun v => by rw [hsame.2 v]; exact HCN.out v, hsrt⟩, ?_⟩
    exact hbel.trans ((hout.below (by have := (hown.lt g rfl).2; omega)).mono (by omega))
end
section
open Go.RowKit
set_option maxRecDepth 100000
set_option linter.unusedVariables false
def hN (x : Int) (b : Nat) : Nat := min x.toNat b
theorem heldR_c (x : Int) (b : Nat) (w : World) : Calls Tryz.prog 47 #[.int .i64 x, .int .i64 0, .int .i64 b] w fun e w' => e = .returned (.int .i64 (hN x b : Nat)) ∧ w = w' := by
 have h : Hid ((if (if (b : Int) < x then (b : Int) else x) < 0 then 0 else (if (b : Int) < x then (b : Int) else x)) = ((hN x b : Nat) : Int)) := by unfold Hid hN; omega
 go_enter Tryz.func47, Tryz.ntmps47
 go_wp2
 all_goals (go_ret; have := h.out; exact ⟨ret_i64 (by omega), rfl⟩)
def FreqB (fr : List Int) : Nat → Bool
 | 0 => true
 | k + 1 => FreqB fr k && decide (0 ≤ gi fr k ∧ gi fr k ≤ 1073741824)
theorem FreqB_not {fr : List Int} {k n : Nat} (hk : k < n) (h : ¬ (0 ≤ gi fr k ∧ gi fr k ≤ 1073741824)) : FreqB fr n = false := by
 induction n with
 | zero => omega
 | succ n ih =>
  unfold FreqB
  rcases (show k < n ∨ k = n by omega) with h1 | rfl
  ·rw [ih h1]; rfl
  ·rw [decide_eq_false h, Bool.and_false]
theorem FreqB_all {fr : List Int} {n : Nat} (h : FreqB fr n = true) : ∀ i, i < n → 0 ≤ gi fr i ∧ gi fr i ≤ 1073741824 := by
 intro i hi
 rcases Classical.em (0 ≤ gi fr i ∧ gi fr i ≤ 1073741824) with h1 | h1
 ·exact h1
 ·rw [FreqB_not hi h1] at h; cases h
def chkE (fr : List Int) (n : Nat) (L : Int) : Nat :=
 if L < 1 ∨ 15 < L then 1 else if 288 < n then 2 else if FreqB fr n = false then 23 else if 2 ^ L.toNat < (comeN fr n).length then 3 else 0
def FIdx (fr : List Int) (n : Nat) (x : Int) : Prop := (FreqB fr n = true ∧ x = -1) ∨ (FreqB fr n = false ∧ 0 ≤ x)
theorem FIdx.geq {fr : List Int} {n : Nat} {x : Int} (h : FIdx fr n x) : decide (0 ≤ x) = !FreqB fr n := by
 rcases h with ⟨h1, rfl⟩ | ⟨h1, h2⟩
 ·rw [h1]; rfl
 ·rw [h1, decide_eq_true h2]; rfl
theorem bad3_c (a : Int) (w : World) : Calls Tryz.prog 72 #[.int .i64 a] w fun e w' => e = .returned (.bool (!decide (0 ≤ a ∧ a ≤ 1073741824))) ∧ w = w' := by
 by_cases h1 : a < 0
 ·have hd : decide (0 ≤ a ∧ a ≤ 1073741824) = false := decide_eq_false (by omega)
  rw [hd]
  clear hd
  go_enter Tryz.func72, Tryz.ntmps72
  go_wp2
  go_ret
  exact ⟨rfl, rfl⟩
 ·by_cases h2 : 1073741824 < a
  ·have hd : decide (0 ≤ a ∧ a ≤ 1073741824) = false := decide_eq_false (by omega)
   rw [hd]
   clear hd
   go_enter Tryz.func72, Tryz.ntmps72
   go_wp2
   go_ret
   exact ⟨rfl, rfl⟩
  ·have hd : decide (0 ≤ a ∧ a ≤ 1073741824) = true := decide_eq_true (by omega)
   rw [hd]
   clear hd
   go_enter Tryz.func72, Tryz.ntmps72
   go_wp2
   go_ret
   exact ⟨rfl, rfl⟩
set_option maxHeartbeats 1000000 in
theorem Index3_c (A : Option Addr) (n c : Nat) (l : List Int) (w : World) (h : IRow w A n .i64 l) :
  Calls Tryz.prog 118 #[.slice A n c, .func (.func 72) #[] #[]] w fun e w' => ∃ x, e = .returned (.int .i64 x) ∧ FIdx l n x ∧ w = w' := by
 have hm := h.max'
 go_enter Tryz.func118, Tryz.ntmps118
 go_wp2
 go_loop [8] (fun i => ∃ k : Nat, k ≤ n ∧ i = .int .i64 k ∧ Hid (FreqB l k = true)) (fun i => n - (intOf i).toNat)
 case atStart => exact ⟨0, by omega, rfl, rfl⟩
 case round =>
  obtain ⟨k, hk, rfl, hs⟩ := hrel
  by_cases hlt : k < n
  ·have hkn : (k : Int) < n := by omega
   obtain ⟨b1, o1, rfl, _, q1⟩ := h.at_ hlt
   have hb := bad3_c (gi l k)
   by_cases hz : 0 ≤ gi l k ∧ gi l k ≤ 1073741824
   ·have hs2 : Hid (FreqB l (k + 1) = true) := by unfold Hid FreqB; rw [hs.out, decide_eq_true hz]; rfl
    rw [decide_eq_true hz] at hb
    generalize gi l k = a at *
    have HB := Lib.hid hb
    clear hb hz
    go_wp2_with (go_at_call 72; refine (HB.out _).mono ?_; rintro e w' ⟨rfl, rfl⟩)
    go_round
    case rel => exact ⟨k + 1, by omega, by go_num, hs2⟩
    case measure => simp [intOf]; omega
   ·have hr : Hid (FIdx l n k) := .inr ⟨FreqB_not hlt hz, by omega⟩
    rw [decide_eq_false hz] at hb
    generalize gi l k = a at *
    have HB := Lib.hid hb
    clear hb hz
    go_wp2_with (go_at_call 72; refine (HB.out _).mono ?_; rintro e w' ⟨rfl, rfl⟩)
    go_ret
    exact ⟨_, rfl, hr.out, rfl⟩
  ·obtain rfl : k = n := by omega
   go_wp2
   go_ret
   exact ⟨_, rfl, .inl ⟨hs.out, rfl⟩, rfl⟩
set_option maxHeartbeats 1000000 in
theorem Contains3_c (A : Option Addr) (n c : Nat) (l : List Int) (w : World) (h : IRow w A n .i64 l) :
  Calls Tryz.prog 71 #[.slice A n c, .func (.func 72) #[] #[]] w fun e w' => e = .returned (.bool (!FreqB l n)) ∧ w = w' := by
 go_enter Tryz.func71, Tryz.ntmps71
 go_wp2_with (go_at_call 118; refine (Index3_c A n c l _ h).mono ?_; rintro e w' ⟨x, rfl, hx, rfl⟩; have HX := Lib.hid hx.geq; clear hx)
 go_ret
 exact ⟨ret_bool HX.out, rfl⟩
theorem come_succ (fr : List Int) (k : Nat) : (comeN fr (k + 1)).length = (comeN fr k).length + if 0 < gi fr k then 1 else 0 := by
 show (comeN fr k ++ (if 0 < gi fr k then [k] else [])).length = _
 rw [List.length_append]
 split <;> rfl
theorem pow_limit (L : Int) (h : 1 ≤ L ∧ L ≤ 15) : ∃ k p : Nat, L = (k : Int) ∧ p = 2 ^ L.toNat ∧ (2 : Int) ^ k = (p : Int) ∧ p ≤ 32768 := by
 obtain ⟨k, rfl⟩ : ∃ k : Nat, L = (k : Int) := ⟨L.toNat, by omega⟩
 have h1 : (2 : Nat) ^ k ≤ 2 ^ 15 := Nat.pow_le_pow_right (by decide) (by omega)
 have h3 : (2 : Nat) ^ 15 = 32768 := rfl
 refine ⟨k, 2 ^ k, rfl, by simp, by push_cast; rfl, by omega⟩
end
section
open Go.RowKit
set_option maxRecDepth 100000
set_option linter.unusedVariables false
theorem iN_length (l : List Nat) : (iN l).length = l.length := by simp [iN]
theorem iN_at (l : List Nat) {k : Nat} (h : k < l.length) : (iN l)[k]? = some (.int .i64 (l.getD k 0 : Nat)) := by
 unfold iN
 simp [List.getD_eq_getElem?_getD, h]
theorem iN_ext {L : List Value} {l : List Nat} (hl : L.length = l.length) (h : ∀ k, k < l.length → L[k]? = some (.int .i64 (l.getD k 0 : Nat))) : L = iN l := by
 refine List.ext_getElem? fun k => ?_
 by_cases hk : k < l.length
 ·rw [h k hk, iN_at l hk]
 ·rw [List.getElem?_eq_none (by omega), List.getElem?_eq_none (by rw [iN_length]; omega)]
def nI (l : List Nat) : List Int := l.map fun x => ((x : Nat) : Int)
theorem nI_at (l : List Nat) {k : Nat} (h : k < l.length) : gi (nI l) k = (l.getD k 0 : Nat) := by
 unfold gi nI
 simp [List.getD_eq_getElem?_getD, h]
theorem IRow.ofN {w : World} {base g c n : Nat} {l : List Nat} (h : w.ownsRow base 3 1 (.slice (some ⟨g, 0, none⟩) n c) n (iN l)) (hs : ∀ x ∈ l, x < 9223372036854775808) (hn : n ≤ 1000) : IRow w (some ⟨g, 0, none⟩) n .i64 (nI l) := by
 have hl : l.length = n := by have := h.1; rw [iN_length] at this; omega
 refine ⟨by simp [nI, hl], by unfold maxLen; omega, fun h0 => ?_, fun i hi => ?_⟩
 ·obtain ⟨g', cap, hv, _, hlt⟩ := h.form h0
  injection hv with hv1 _ _
  injection hv1 with hv1
  injection hv1 with hv1
  subst hv1
  refine ⟨g, 0, rfl, hlt, fun i hi => ?_⟩
  rw [Nat.zero_add, h.cellAt i (by omega), iN_at l (by omega), nI_at l (by omega)]
 ·rw [nI_at l (by omega)]
  have h1 : l.getD i 0 < 9223372036854775808 := by
   rw [List.getD_eq_getElem?_getD, List.getElem?_eq_getElem (by omega)]
   exact hs _ (List.getElem_mem _)
  have hmin : IntKind.i64.min = -9223372036854775808 := rfl
  have hmax : IntKind.i64.max = 9223372036854775807 := rfl
  simp only [Lit.wf, Bool.and_eq_true, decide_eq_true_eq]
  omega
theorem buy_step (W : List Nat) (K : List Nat) {i t k : Nat} (h : K.drop i = buyC W (t + 1) k) : K.getD i 0 = lcn ((tierC W t).take k) ∧ K.drop (i + 1) = buyC W t (2 * (k - lcn ((tierC W t).take k))) := by
 have h1 : K.drop i = lcn ((tierC W t).take k) :: buyC W t (2 * (k - lcn ((tierC W t).take k))) := h
 have hlt : i < K.length := by
  rcases Nat.lt_or_ge i K.length with h2 | h2
  ·exact h2
  ·rw [List.drop_of_length_le h2] at h1; cases h1
 rw [List.drop_eq_getElem_cons hlt] at h1
 injection h1 with h2 h3
 exact ⟨by rw [List.getD_eq_getElem?_getD, List.getElem?_eq_getElem hlt]; exact h2, h3⟩
theorem buy_next {W : List Nat} (hW : Srt W) : ∀ s k, k ≤ (tierC W s).length → lcn ((tierC W s).take k) ≤ k ∧ 2 * (k - lcn ((tierC W s).take k)) ≤ 2 * W.length ∧ (1 ≤ s → 2 * (k - lcn ((tierC W s).take k)) ≤ (tierC W (s - 1)).length)
 | 0, k, hk => by
  have h := tier_split hW 0 k hk
  have h2 : k = lcn ((tierC W 0).take k) := h.2.2.1
  exact ⟨h.1, by omega, fun h => by omega⟩
 | s + 1, k, hk => by
  have h := tier_split hW (s + 1) k hk
  have h2 : 2 * (k - lcn ((tierC W (s + 1)).take k)) ≤ (tierC W s).length := h.2.2.1
  have h3 := tier_len_le W s
  exact ⟨h.1, by omega, fun _ => h2⟩
set_option maxHeartbeats 4000000 in
theorem leavesBought_c (b off n L : Nat) (W : List Nat) (w : World) (h : CRow w (some ⟨b, off, none⟩) n (cw (lvs W)) (cq (lvs W))) (hb : b < w.heap.size) (hWn : n = W.length) (hn : n ≤ 400) (hL : 1 ≤ L) (hL2 : L ≤ 15) (hW : ∀ x ∈ W, x ≤ 1073741824) (hS : Srt W) (hroom : n ≤ 2 ^ L) :
  Calls Tryz.prog 74 #[.slice (some ⟨b, off, none⟩) n n, .int .i64 L] w fun e w' => ∃ g, e = .returned (.slice (some ⟨g, 0, none⟩) L L) ∧ w'.ownsRow w.heap.size 3 1 (.slice (some ⟨g, 0, none⟩) L L) L (iN (bestC W L)) ∧ Below w.heap.size w w' := by
 obtain ⟨i0, hi, hz0, hz1, hz2⟩ := info_parts info_intL
 obtain ⟨t0, ht0⟩ : ∃ t0, L = t0 + 1 := ⟨L - 1, by omega⟩
 have hr0 : 2 * W.length - 2 ≤ (tierC W t0).length := best_room hS (by rw [← ht0, ← hWn]; exact hroom)
 have HT := Lib.hid (tiers_c b off n L W w h hb hWn hn hL hL2 hW)
 have hmx : max (2 * (n : Int) - 2) 0 = ((2 * n - 2 : Nat) : Int) := by omega
 obtain ⟨k0, hk0⟩ : ∃ k0, k0 = 2 * n - 2 := ⟨_, rfl⟩
 rw [← hk0] at hmx
 rw [← hWn, ← hk0] at hr0
 have HB : Hid (bestC W L = buyC W L k0) := by unfold Hid bestC; rw [hk0, hWn]
 have hk9 : k0 ≤ 800 := by omega
 have HR0 := Lib.hid hr0
 have HT0 := Lib.hid ht0
 have HSR := Lib.hid hS
 have HWN := Lib.hid hWn
 clear hk0 hr0 ht0 hS hWn hroom h hW
 go_enter Tryz.func74, Tryz.ntmps74
 go_wp2_with fail
 refine HT.out.mono ?_
 rintro e w1 ⟨g, c, rfl, G, O, C, hown, hT, hb1⟩
 go_wp2_with (at_make; refine wpList_make_full _ rfl _ _ 49 rfl w1.heap.size 3 i0 (.int .i64 0) 1 Tryz.underlying49 hi hz0 hz1 _ _ _ _ L rfl rfl rfl rfl (by rw [hz2]; omega) (by unfold maxLen; omega) (Nat.le_refl _) ?_; intro w2 hown2 hgrow2)
 go_wp2
 obtain ⟨L0, hL0⟩ : ∃ L0, L0 = (madeCells (Value.int IntKind.i64 0).cells (L * 1)).toList := ⟨_, rfl⟩
 rw [← hL0] at hown2
 clear hL0
 obtain ⟨q, hq⟩ : ∃ q, q = w1.heap.size := ⟨_, rfl⟩
 rw [← hq] at hown2 ⊢
 have HQ := Lib.hid hq
 have hbq : Below q w1 w2 := by rw [hq]; exact (Below.refl _ _).grown hgrow2 (Nat.le_refl _) (fun k h => by cases h)
 have hgq : g < q := by rw [hq]; exact (hown.lt g rfl).2
 clear hq hgrow2
 go_loopw [7, 21] (fun vb vi wr => ∃ (i k : Nat) (Ls : List Value), i ≤ L ∧ k ≤ 800 ∧ vi = .int .i64 i ∧ vb = .int .i64 k ∧ wr.ownsRow q 3 1 (.slice (some ⟨q, 0, none⟩) L L) L Ls ∧
   Hid ((∀ j, j < i → Ls[j]? = some (.int .i64 ((buyC W L k0).getD j 0 : Nat))) ∧ (buyC W L k0).drop i = buyC W (L - i) k ∧ (i < L → k ≤ (tierC W (L - 1 - i)).length)) ∧ Below q w1 wr) (fun _ vi _ => L - (intOf vi).toNat)
 case atStart => exact ⟨0, k0, L0, by omega, hk9, rfl, rfl, hown2, ⟨fun j hj => by omega, rfl, fun _ => by rw [show L - 1 - 0 = t0 by have := HT0.out; omega]; exact HR0.out⟩, hbq⟩
 case round =>
  obtain ⟨i, k, Ls, hiL, hk8, rfl, rfl, hown3, hinv, hbel⟩ := hrel
  by_cases hlt : i < L
  ·have hil : (i : Int) < L := by omega
   obtain ⟨s, hs⟩ : ∃ s, s = L - 1 - i := ⟨_, rfl⟩
   obtain ⟨L1, hL1⟩ : ∃ L1, L1 = L - 1 := ⟨_, rfl⟩
   have e1 : (L : Int) - 1 = (L1 : Int) := by omega
   have e2 : (L1 : Int) - (i : Int) = (s : Int) := by omega
   have hsL : s < L := by omega
   have hsi : (s : Int) < L := by omega
   obtain ⟨hT1, hT2, hT3, hT4⟩ := hT.row s hsL
   have hq2 := HQ.out
   have hcell : wr.cell? ⟨g, s, none⟩ = some (.slice (some ⟨G s, O s, none⟩) (tierC W s).length (C s)) :=
    (hbel.cell (p := ⟨g, s, none⟩) hgq).trans ((hown.cellAt s (by omega)).trans (topT_at W G O C hsL))
   have hcr := hT4.below (by rw [← HQ.out]; exact hbel)
   have hkT : k ≤ (tierC W s).length := by rw [hs]; exact hinv.out.2.2 hlt
   have hT8 := tier_len_le W s
   have hkC : k ≤ C s := by omega
   have hki : (k : Int) ≤ ((tierC W s).length : Int) := by omega
   have hkc : (k : Int) ≤ (C s : Int) := by omega
   obtain ⟨hb1', hb2'⟩ := buy_step W (buyC W L k0) (i := i) (t := s) (k := k) (by rw [hinv.out.2.1, show L - i = s + 1 by omega])
   have hsp := buy_next HSR.out s k hkT
   have HC := Lib.hid (countLeaves_c (some ⟨G s, O s, none⟩) k (C s) (tierC W s) wr (hcr.few hkT) hkT (by omega))
   obtain ⟨x, hx⟩ : ∃ x, x = lcn ((tierC W s).take k) := ⟨_, rfl⟩
   have hxk : x ≤ k := by rw [hx]; exact hsp.1
   have HNX : Hid (i + 1 < L → 2 * (k - x) ≤ (tierC W (L - 1 - (i + 1))).length) := by
    intro h9
    rw [show L - 1 - (i + 1) = s - 1 by omega, hx]
    exact hsp.2.2 (by omega)
   rw [← hx] at hb1' hb2' HC
   have HB1 := Lib.hid hb1'
   have HB2 := Lib.hid hb2'
   have HSL : Hid (L - (i + 1) = s) := by unfold Hid; omega
   have hx2 : 2 * (k - x) ≤ 800 := by
    have h7 := hsp.2.1
    have hWl := HWN.out
    rw [← hx] at h7
    omega
   clear hx hb1' hb2' hsp hT1 hT2 hT3 hT4 hs hL1 hq2
   generalize (tierC W s).length = tl at *
   obtain ⟨gs, hgs⟩ : ∃ y, y = G s := ⟨_, rfl⟩
   obtain ⟨os, hos⟩ : ∃ y, y = O s := ⟨_, rfl⟩
   obtain ⟨cs, hcs⟩ : ∃ y, y = C s := ⟨_, rfl⟩
   rw [← hgs, ← hos, ← hcs] at hcell HC
   rw [← hcs] at hkC hkc
   clear hgs hos hcs hcr
   have hLl : Ls.length = L := by have := hown3.1; omega
   obtain ⟨y, hy⟩ : ∃ y, y = 2 * (k - x) := ⟨_, rfl⟩
   obtain ⟨z, hz⟩ : ∃ z, z = k - x := ⟨_, rfl⟩
   have e3 : (k : Int) - (x : Int) = (z : Int) := by omega
   have e4 : 2 * (z : Int) = (y : Int) := by omega
   have HY := Lib.hid hy
   clear hy hz
   go_wp2_with fail
   refine HC.out.mono ?_
   rintro e w4 ⟨rfl, hb4⟩
   have hown4 := own_below hown3 hb4
   have hbel4 := hbel.trans (hb4.mono (by have := hbel.size; have := HQ.out; omega))
   obtain ⟨v0, hv0⟩ := some_atV (L := Ls) (j := i) (by omega)
   have c0 := (hown4.cellAt i (by omega)).trans hv0
   have f0 := hown4.frozenAt i
   have s0 := hown4.stored i (.int .i64 (x : Nat))
   have c1 := (s0.1.cellAt i (by omega)).trans (show (Ls.set i (.int .i64 (x : Nat)))[i]? = some (.int .i64 (x : Nat)) by simp [hLl, hlt])
   have hC : Hid (∀ j, j < i + 1 → (Ls.set i (.int .i64 (x : Nat)))[j]? = some (.int .i64 ((buyC W L k0).getD j 0 : Nat))) := by
    intro j hj
    rw [List.getElem?_set]
    by_cases e : i = j
    ·subst e
     rw [if_pos rfl, if_pos (by omega), HB1.out]
    ·rw [if_neg e]
     exact hinv.out.1 j (by omega)
   have S0 := Lib.hid s0.1
   have HB5 := Lib.hid (show Below q w1 (w4.setCell ⟨q, i, none⟩ (.int .i64 (x : Nat))) from hbel4.setCell (Nat.le_refl _) _)
   clear s0 hown4 hown3 hv0
   go_wp2
   go_roundw
   case rel => exact ⟨i + 1, y, _, by omega, by have := HY.out; omega, by go_num, by go_num, S0.out, ⟨hC.out, by rw [HB2.out, HSL.out, HY.out], fun h9 => by rw [HY.out]; exact HNX.out h9⟩, HB5.out⟩
   case measure => simp [intOf]; omega
  ·obtain rfl : i = L := by omega
   have hil : ¬ (i : Int) < (i : Int) := by omega
   have hfin : Hid (Ls = iN (bestC W i)) := by
    rw [HB.out]
    have hbl := buyC_length W i k0
    refine iN_ext (by have := hown3.1; omega) fun j hj => hinv.out.1 j (by omega)
   go_wp2
   go_ret
   rw [hfin.out] at hown3
   refine ⟨q, rfl, ?_, ?_⟩
   ·exact own_base2 hown3 (by rw [HQ.out]; exact hb1.size)
   ·exact hb1.trans ((show Below w1.heap.size w1 wr by rw [← HQ.out]; exact hbel).mono hb1.size)
end
section
open Go.RowKit
set_option maxRecDepth 100000
set_option linter.unusedVariables false
def arr (A : Nat → Nat) (n : Nat) : List Nat := (List.range n).map A
theorem arr_length (A : Nat → Nat) (n : Nat) : (arr A n).length = n := by simp [arr]
theorem arr_at (A : Nat → Nat) {n v : Nat} (h : v < n) : (arr A n).getD v 0 = A v := by simp [arr, List.getD_eq_getElem?_getD, h]
theorem arr_cell (A : Nat → Nat) {n v : Nat} (h : v < n) : (iN (arr A n))[v]? = some (.int .i64 (A v : Nat)) := by
 rw [iN_at _ (by rw [arr_length]; exact h), arr_at A h]
theorem arr_set (A : Nat → Nat) {n s x : Nat} (h : s < n) : (iN (arr A n)).set s (.int .i64 (x : Nat)) = iN (arr (fun v => if v = s then x else A v) n) := by
 refine iN_ext (by rw [List.length_set, iN_length, arr_length, arr_length]) fun k hk => ?_
 rw [arr_length] at hk
 rw [arr_at _ hk, List.getElem?_set]
 by_cases e : s = k
 ·subst e
  rw [if_pos rfl, if_pos (by rw [iN_length, arr_length]; exact h), if_pos rfl]
 ·rw [if_neg e, if_neg (fun h => e h.symm), arr_cell A hk]
theorem cnD_two {d : Nat → Nat} {v i j m : Nat} (hij : i < j) (hj : j < m) (hi : d i = v) (hj2 : d j = v) : 2 ≤ cnD d v m := by
 have h1 : cnD d v (i + 1) = cnD d v i + 1 := by rw [cnD_succ, if_pos hi]
 have h2 : cnD d v (j + 1) = cnD d v j + 1 := by rw [cnD_succ, if_pos hj2]
 have h3 := cnD_mono d v (show i + 1 ≤ j by omega)
 have h4 := cnD_mono d v (show j + 1 ≤ m by omega)
 omega
theorem Come.inj {fr : List Int} {n m : Nat} {d : Nat → Nat} (h : Come fr n m d) {i j : Nat} (hi : i < m) (hj : j < m) (e : d i = d j) : i = j := by
 have h1 := h.cnt (d j)
 have h2 : cnD d (d j) m ≤ 1 := by rw [h1]; split <;> omega
 rcases Nat.lt_trichotomy i j with h3 | h3 | h3
 ·have := cnD_two h3 hj e rfl; omega
 ·exact h3
 ·have := cnD_two h3 hi rfl e; omega
theorem Come.key {fr : List Int} {n m : Nat} {d : Nat → Nat} (h : Come fr n m d) (hn : n ≤ 1000) {i j : Nat} (hij : i < j) (hj : j < m) : keyT fr (d i) < keyT fr (d j) := by
 have h1 := h.srt2 i j (Nat.zero_le _) hij hj
 have h2 := h.sym i (by omega)
 have h3 := h.sym j hj
 rcases Int.lt_or_eq_of_le h1 with h4 | h4
 ·exact h4
 ·have := h.inj (by omega) hj (keyT_inj (by omega) (by omega) h4)
  omega
theorem Come.unique {fr : List Int} {n m : Nat} {d d' : Nat → Nat} (h : Come fr n m d) (h' : Come fr n m d') (hn : n ≤ 1000) : ∀ p, p < m → d p = d' p := by
 have hat : ∀ {d d' : Nat → Nat}, Come fr n m d → Come fr n m d' → ∀ p, p < m → (∀ q, q < p → d q = d' q) → keyT fr (d' p) ≤ keyT fr (d p) := by
  intro d d' h h' p hp hq
  have hv : cnD d (d p) m ≠ 0 := by
   have h1 : cnD d (d p) (p + 1) = cnD d (d p) p + 1 := by rw [cnD_succ, if_pos rfl]
   have h2 := cnD_mono d (d p) (show p + 1 ≤ m by omega)
   omega
  have hc : cnD d' (d p) m = cnD d (d p) m := by rw [h.cnt, h'.cnt]
  obtain ⟨j, _, j2, j3⟩ := cnD_find (d := d') (v := d p) (a := 0) (b := m) (by rw [hc]; show 0 < _; omega)
  rcases Nat.lt_trichotomy j p with c | c | c
  ·have := h.inj (i := j) (j := p) (by omega) hp (by rw [hq j c, j3])
   omega
  ·rw [← c, j3, c]; exact Int.le_refl _
  ·rw [← j3]; exact Int.le_of_lt (h'.key hn c j2)
 intro p
 induction p using Nat.strongRecOn with
 | _ p ih =>
  intro hp
  have h1 := hat h h' p hp fun q hq => ih q hq (by omega)
  have h2 := hat h' h p hp fun q hq => (ih q hq (by omega)).symm
  have s1 := h.sym p hp
  have s2 := h'.sym p hp
  exact keyT_inj (by omega) (by omega) (Int.le_antisymm h2 h1)
def wD (fr : List Int) (d : Nat → Nat) (m : Nat) : List Nat := wtsL fr (lsD d m) m
theorem wD_length (fr : List Int) (d : Nat → Nat) (m : Nat) : (wD fr d m).length = m := wtsL_length _ _ _
theorem wD_at (fr : List Int) (d : Nat → Nat) {p m : Nat} (h : p < m) : (wD fr d m).getD p 0 = (gi fr (d p)).toNat := by
 unfold wD
 rw [wtsL_at _ _ h, lsD_at d h]
 simp
def lenP (fr : List Int) (d : Nat → Nat) (m L p : Nat) : Nat := if m = 1 then 1 else lqC (bestC (wD fr d m) L) p
structure Made (fr : List Int) (n L m : Nat) (d A : Nat → Nat) : Prop where
 come : Come fr n m d
 many : m ≤ 2 ^ L
 at_ : ∀ p, p < m → A (d p) = lenP fr d m L p
 none : ∀ v, (∀ p, p < m → d p ≠ v) → A v = 0
theorem Made.unique {fr : List Int} {n L m : Nat} {d d' A A' : Nat → Nat} (h : Made fr n L m d A) (h' : Made fr n L m d' A') (hn : n ≤ 1000) : A = A' := by
 have hd := h.come.unique h'.come hn
 have hls : lsD d m = lsD d' m := by
  unfold lsD
  exact List.map_congr_left fun i hi => by rw [hd i (List.mem_range.1 hi)]
 have hw : wD fr d m = wD fr d' m := by unfold wD; rw [hls]
 funext v
 by_cases e : ∃ p, p < m ∧ d p = v
 ·obtain ⟨p, hp, e⟩ := e
  have h1 := h.at_ p hp
  have h2 := h'.at_ p hp
  rw [e] at h1
  rw [← hd p hp, e] at h2
  rw [h1, h2]
  unfold lenP
  rw [hw]
 ·rw [h.none v (fun p hp hv => e ⟨p, hp, hv⟩), h'.none v (fun p hp hv => e ⟨p, hp, by rw [hd p hp, hv]⟩)]
theorem lenC_snoc (X : List Nat) (a p : Nat) : lqC (X ++ [a]) p = lqC X p + if p < a then 1 else 0 := by
 induction X with
 | nil => show (if p < a then 1 else 0) + lqC [] p = lqC [] p + _; unfold lqC; omega
 | cons x X ih => show (if p < x then 1 else 0) + lqC (X ++ [a]) p = (if p < x then 1 else 0) + lqC X p + _; rw [ih]; omega
theorem lenC_take (B : List Nat) {i : Nat} (h : i < B.length) (p : Nat) : lqC (B.take (i + 1)) p = lqC (B.take i) p + if p < B.getD i 0 then 1 else 0 := by
 rw [List.take_succ_eq_append_getElem h, lenC_snoc, List.getD_eq_getElem?_getD, List.getElem?_eq_getElem h]
 rfl
theorem chk_no {fr : List Int} {n : Nat} {L : Int} (h : chkE fr n L = 0) : (1 ≤ L ∧ L ≤ 15) ∧ n ≤ 288 ∧ FreqB fr n = true ∧ (comeN fr n).length ≤ 2 ^ L.toNat := by
 unfold chkE at h
 split at h
 ·cases h
 ·split at h
  ·cases h
  ·split at h
   ·cases h
   ·split at h
    ·cases h
    ·rename_i h1 h2 h3 h4
     refine ⟨by omega, by omega, ?_, by omega⟩
     cases hq : FreqB fr n with
     | true => rfl
     | false => exact absurd hq h3
theorem wD_srt {fr : List Int} {n m : Nat} {d : Nat → Nat} (h : Come fr n m d) : Srt (wD fr d m) := by
 refine List.pairwise_iff_getElem.2 fun i j hi hj hij => ?_
 rw [wD_length] at hi hj
 have h1 := wD_at fr d hi
 have h2 := wD_at fr d hj
 rw [List.getD_eq_getElem?_getD, List.getElem?_eq_getElem (by rw [wD_length]; exact hi)] at h1
 rw [List.getD_eq_getElem?_getD, List.getElem?_eq_getElem (by rw [wD_length]; exact hj)] at h2
 simp only [Option.getD_some] at h1 h2
 rw [h1, h2]
 have := h.srt i j (by omega) hij hj
 omega
theorem wD_small {fr : List Int} {n m : Nat} {d : Nat → Nat} (h : Come fr n m d) (hf : ∀ i, i < n → 0 ≤ gi fr i ∧ gi fr i ≤ 1073741824) : ∀ x ∈ wD fr d m, x ≤ 1073741824 := by
 intro x hx
 obtain ⟨i, hi, rfl⟩ := List.mem_iff_getElem.1 hx
 have hi' := hi
 rw [wD_length] at hi'
 have h1 := wD_at fr d hi'
 rw [List.getD_eq_getElem?_getD, List.getElem?_eq_getElem hi] at h1
 simp only [Option.getD_some] at h1
 rw [h1]
 have := hf (d i) (h.sym i hi')
 omega
set_option maxHeartbeats 8000000 in
theorem Make_ok (FA : Option Addr) (n cf : Nat) (fr : List Int) (Li : Int) (w : World) (hf : IRow w FA n .i64 fr) (hok : chkE fr n Li = 0) :
  Calls Tryz.prog 30 #[.slice FA n cf, .int .i64 Li] w fun e w' => ∃ g, e = .returned (.tuple #[.slice (some ⟨g, 0, none⟩) n n, .int .i64 0]) ∧ ∃ m d A, w'.ownsRow w.heap.size 3 1 (.slice (some ⟨g, 0, none⟩) n n) n (iN (arr A n)) ∧ Made fr n Li.toNat m d A ∧ Below w.heap.size w w' := by
 obtain ⟨i0, hi, hz0, hz1, hz2⟩ := info_parts info_intL
 obtain ⟨hL, hn, hfb, hmany⟩ := chk_no hok
 have hfr := FreqB_all hfb
 have hct := Contains3_c FA n cf fr w hf
 rw [hfb] at hct
 have HCT := Lib.hid hct
 have HRF := Lib.hid (rarestFirst_c FA n cf fr w hf (by omega))
 obtain ⟨L, p, rfl, hp, hpi, hp9⟩ := pow_limit Li hL
 rw [← hp] at hmany
 simp only [Int.toNat_natCast] at hp ⊢
 have HP := Lib.hid hp
 have HMANY := Lib.hid hmany
 have HFR := Lib.hid hfr
 have hL1 : ¬ (L : Int) < 1 := by omega
 have hL2 : ¬ (15 : Int) < (L : Int) := by omega
 have hn1 : ¬ (288 : Int) < (n : Int) := by omega
 clear hct hfb hok hL hp hmany hfr
 go_enter Tryz.func30, Tryz.ntmps30
 go_wp2_with fail
 refine HCT.out.mono ?_
 rintro e w' ⟨rfl, rfl⟩
 go_wp2_with fail
 refine HRF.out.mono ?_
 rintro e w1 ⟨O, c, d, m, rfl, hm, hmc, hrow, hcome, hb1⟩
 have hmp : ¬ (p : Int) < (m : Int) := by have := HMANY.out; omega
 have hf1 := hf.below hb1
 have hmn := hcome.le
 have HM2 : Hid (m ≤ 2 ^ L) := by have := HMANY.out; have := HP.out; unfold Hid; omega
 clear hm hf
 by_cases hm1 : m = 1
 ·have hmi : ((m : Int) == 1) = true := by simp; omega
  have h0m : (0 : Int) < (m : Int) := by omega
  have HM := Lib.hid hm1
  clear hm1
  go_wp2_with (
   at_make
   refine wpList_make_full _ rfl _ _ 49 rfl w1.heap.size 3 i0 (.int .i64 0) 1 Tryz.underlying49 hi hz0 hz1 _ _ _ _ n rfl rfl rfl rfl (by rw [hz2]; omega) (by unfold maxLen; omega) (Nat.le_refl _) ?_
   intro w2 hown2 hgrow2
   have hzero : (madeCells (Value.int IntKind.i64 0).cells (n * 1)).toList = iN (arr (fun _ => 0) n) := by
    rw [show madeCells (Value.int IntKind.i64 0).cells (n * 1) = madeCells #[.int .i64 0] n by rw [Nat.mul_one]; rfl, toList_madeCells_one]
    refine iN_ext (by simp [arr_length]) fun k hk => ?_
    rw [arr_length] at hk
    rw [arr_at _ hk, List.getElem?_replicate, if_pos hk]
    rfl
   obtain ⟨q, hq⟩ : ∃ q, q = w1.heap.size := ⟨_, rfl⟩
   rw [hzero, ← hq] at hown2
   have hbq : Below q w1 w2 := by rw [hq]; exact (Below.refl _ _).grown hgrow2 (Nat.le_refl _) (fun k h => by cases h)
   rw [← hq]
   have HQ := Lib.hid hq
   have hw1 := hb1.size
   clear hzero hgrow2 hq
   have hf2 := hf1.below (by rw [← HQ.out]; exact hbq)
   have hrow2 := hrow.below (by rw [← HQ.out]; exact hbq)
   clear hf1 hrow
   obtain ⟨b, o, rfl, hlb, hc0⟩ := hrow2.at_ (i := 0) (by omega)
   rw [lsD_at d (by omega), Nat.add_zero] at hc0
   have hs := hcome.sym 0 (by omega)
   obtain ⟨s, hss⟩ : ∃ s, s = d 0 := ⟨_, rfl⟩
   rw [← hss] at hc0 hs
   have hsi : (s : Int) < (n : Int) := by omega
   have c0 := (hown2.cellAt s (by omega)).trans (arr_cell (fun _ => 0) hs)
   have f0 := hown2.frozenAt s
   have S0 := hown2.stored s (.int .i64 1)
   have hset := arr_set (fun _ => 0) (x := 1) hs
   rw [show Value.int IntKind.i64 ((1 : Nat) : Int) = .int .i64 1 from rfl] at hset
   rw [hset] at S0
   have S1 := Lib.hid S0.1
   have HB := Lib.hid (show Below q w1 (w2.setCell ⟨q, s, none⟩ (.int .i64 1)) from hbq.setCell (Nat.le_refl _) _)
   have HS := Lib.hid hss
   clear S0 hset hss)
  go_wp2
  go_ret2
  have hm1 := HM.out
  refine ⟨q, rfl, m, d, _, own_base2 S1.out (by have := HQ.out; omega), ⟨hcome, HM2.out, fun p hp => ?_, fun v hv => ?_⟩, hb1.trans ((show Below w1.heap.size w1 _ by rw [← HQ.out]; exact HB.out).mono hw1)⟩
  ·obtain rfl : p = 0 := by omega
   unfold lenP
   rw [if_pos hm1, HS.out]
   exact if_pos rfl
  ·have := hv 0 (by omega)
   show (if v = s then 1 else 0) = 0
   rw [if_neg (by rw [HS.out]; exact fun e => this e.symm)]
 ·have hmi : ((m : Int) == 1) = false := by simp; omega
  have hgi : ∀ i, i < m → 0 ≤ gi (lsD d m) i ∧ gi (lsD d m) i < n := fun i hi => by
   rw [lsD_at d hi]
   have := hcome.sym i hi
   omega
  have HGI := Lib.hid hgi
  have hrq1 : ∀ b o, O = some ⟨b, o, none⟩ → 0 < m → b < w1.heap.size := fun b o e h => by
   obtain ⟨b', o', e', hl, _⟩ := hrow.cells h
   rw [e] at e'
   injection e' with e'
   injection e' with e' _
   omega
  have HRQ := Lib.hid hrq1
  clear hrq1
  have HM := Lib.hid hm1
  clear hm1 hgi
  go_wp2_with (
   at_make
   refine wpList_make_full _ rfl _ _ 49 rfl w1.heap.size 3 i0 (.int .i64 0) 1 Tryz.underlying49 hi hz0 hz1 _ _ _ _ n rfl rfl rfl rfl (by rw [hz2]; omega) (by unfold maxLen; omega) (Nat.le_refl _) ?_
   intro w2 hown2 hgrow2
   have hzero : (madeCells (Value.int IntKind.i64 0).cells (n * 1)).toList = iN (arr (fun _ => 0) n) := by
    rw [show madeCells (Value.int IntKind.i64 0).cells (n * 1) = madeCells #[.int .i64 0] n by rw [Nat.mul_one]; rfl, toList_madeCells_one]
    refine iN_ext (by simp [arr_length]) fun k hk => ?_
    rw [arr_length] at hk
    rw [arr_at _ hk, List.getElem?_replicate, if_pos hk]
    rfl
   obtain ⟨q, hq⟩ : ∃ q, q = w1.heap.size := ⟨_, rfl⟩
   rw [hzero, ← hq] at hown2
   have hbq : Below q w1 w2 := by rw [hq]; exact (Below.refl _ _).grown hgrow2 (Nat.le_refl _) (fun k h => by cases h)
   rw [← hq]
   have HQ := Lib.hid hq
   have hw1 := hb1.size
   clear hzero hgrow2 hq
   have hf2 := hf1.below (by rw [← HQ.out]; exact hbq)
   have hrow2 := hrow.below (by rw [← HQ.out]; exact hbq)
   clear hf1 hrow
)
  have HLV := Lib.hid (leavesOf_c FA n cf fr O m c (lsD d m) w2 hf2 hrow2 (by omega) HGI.out (fun i hi => (HFR.out i hi).1))
  refine HLV.out.mono ?_
  rintro e w3 ⟨rfl, hown3, hb3⟩
  have HLB := Lib.hid (leavesBought_c w2.heap.size 0 m L (wD fr d m) w3 (CRow.ofOwn hown3) (hown3.lt _ rfl).2 (wD_length fr d m).symm (by omega) (by omega) (by omega) (wD_small hcome HFR.out) (wD_srt hcome) HM2.out)
  have hown4 := own_below hown2 hb3
  have hrow4 := hrow2.below hb3
  have hbq3 := hbq.trans (hb3.mono (by have := hbq.size; have := HQ.out; omega))
  clear hown3 hown2 hrow2 hf2 hbq
  go_wp2_with fail
  refine HLB.out.mono ?_
  rintro e w5 ⟨gB, rfl, hown5, hb5⟩
  have hown6 := own_below hown4 hb5
  have hrow6 := hrow4.below hb5
  have hbq5 := hbq3.trans (hb5.mono (by have := hbq3.size; have := HQ.out; omega))
  have hgB := (hown5.lt gB rfl)
  have hqB : q ≠ gB := by
   have := (hown4.lt q rfl).2
   omega
  obtain ⟨B, hB⟩ : ∃ B, B = bestC (wD fr d m) L := ⟨_, rfl⟩
  rw [← hB] at hown5
  have hBL : B.length = L := by rw [hB]; exact buyC_length _ _ _
  have hBm : ∀ i, i < L → B.getD i 0 ≤ m := fun i hi => by
   have hr := best_room (wD_srt hcome) (t := L - 1) (by rw [wD_length, show L - 1 + 1 = L by omega]; exact HM2.out)
   have h3 := (buy_all (wD_srt hcome) (L - 1) _ hr).2.2
   rw [show L - 1 + 1 = L by omega, wD_length] at h3
   have h4 : ∀ a ∈ B, a ≤ m := by
    rw [hB]
    unfold bestC
    rw [wD_length]
    exact h3
   rw [List.getD_eq_getElem?_getD, List.getElem?_eq_getElem (by omega)]
   exact h4 _ (List.getElem_mem _)
  have HBM := Lib.hid hBm
  have HB := Lib.hid hB
  have HBL := Lib.hid hBL
  clear hBm hB hBL hown4 hrow4 hbq3 hb5 hb3
  have hcB : Hid (∀ i, i < L → w5.cell? ⟨gB, i, none⟩ = some (.int .i64 (B.getD i 0 : Nat))) := fun i hi => by
   rw [hown5.cellAt i (by omega), iN_at B (by have := HBL.out; omega)]
  have hrowq : Hid (∀ b o, O = some ⟨b, o, none⟩ → 0 < m → b < q) := fun b o e h => by have := HRQ.out b o e h; have := HQ.out; omega
  have hgB5 : gB < w5.heap.size := hgB.2
  have hqq : q < w5.heap.size := (hown6.lt q rfl).2
  go_wp2
  go_loopw [48] (fun vi wr => ∃ (i : Nat) (A : Nat → Nat), i ≤ L ∧ vi = .int .i64 i ∧ wr.ownsRow q 3 1 (.slice (some ⟨q, 0, none⟩) n n) n (iN (arr A n)) ∧ Out q (q + 1) w5 wr ∧
   Hid ((∀ p, p < m → A (d p) = lqC (B.take i) p) ∧ (∀ v, (∀ p, p < m → d p ≠ v) → A v = 0))) (fun vi _ => L - (intOf vi).toNat)
  case atStart => exact ⟨0, fun _ => 0, by omega, rfl, hown6, Out.refl _ _ _, ⟨fun p _ => rfl, fun v _ => rfl⟩⟩
  case round =>
   obtain ⟨i, A, hiL, rfl, hownA, hout, hA⟩ := hrel
   by_cases hlt : i < L
   ·have hil : (i : Int) < L := by omega
    have hci : wr.cell? ⟨gB, i, none⟩ = some (.int .i64 (B.getD i 0 : Nat)) := (World.cell?_of_block (a := ⟨gB, i, none⟩) (hout.block gB hgB5 (by omega))).trans (hcB.out i hlt)
    have hbm := HBM.out i hlt
    have HT := Lib.hid (fun p => lenC_take B (i := i) (by have := HBL.out; omega) p)
    obtain ⟨a, ha⟩ : ∃ a, a = B.getD i 0 := ⟨_, rfl⟩
    rw [← ha] at hci hbm HT
    have HA := Lib.hid ha
    clear ha
    have ham : (a : Int) ≤ (m : Int) := by omega
    have hac : (a : Int) ≤ (c : Int) := by omega
    have hBI : Hid (∀ p, lqC (B.take i) p ≤ 15) := fun p => by
     have h1 := lenC_le (B.take i) p
     have h2 : (B.take i).length ≤ i := by rw [List.length_take]; exact Nat.min_le_left _ _
     omega
    obtain ⟨X, hX⟩ : ∃ X, X = B.take i := ⟨_, rfl⟩
    rw [← hX] at hBI hA
    have HX := Lib.hid hX
    clear hX
    go_wp2
    go_loopw [56] (fun vj wr => ∃ (j : Nat) (A : Nat → Nat), j ≤ a ∧ vj = .int .i64 j ∧ wr.ownsRow q 3 1 (.slice (some ⟨q, 0, none⟩) n n) n (iN (arr A n)) ∧ Out q (q + 1) w5 wr ∧
     Hid ((∀ p, p < m → A (d p) = lqC X p + if p < j then 1 else 0) ∧ (∀ v, (∀ p, p < m → d p ≠ v) → A v = 0))) (fun vj _ => a - (intOf vj).toNat)
    case atStart => exact ⟨0, A, by omega, rfl, hownA, hout, ⟨fun p hp => by rw [hA.out.1 p hp, if_neg (by omega)]; rfl, hA.out.2⟩⟩
    case round =>
     clear hownA hout hA hci
     obtain ⟨j, A, hja, rfl, hownA, hout, hA⟩ := hrel
     by_cases hjl : j < a
     ·have hji : (j : Int) < a := by omega
      have hjm : j < m := by omega
      obtain ⟨bO, oO, rfl, hbO, hcO⟩ := hrow6.at_ hjm
      rw [lsD_at d hjm] at hcO
      have hcO2 := (World.cell?_of_block (a := ⟨bO, oO + j, none⟩) (hout.block bO hbO (by have := hrowq.out bO oO rfl (by omega); omega))).trans hcO
      have hs := hcome.sym j hjm
      have hAs := hA.out.1 j hjm
      rw [if_neg (Nat.lt_irrefl j), Nat.add_zero] at hAs
      have hAl := hBI.out j
      obtain ⟨s, hss⟩ : ∃ s, s = d j := ⟨_, rfl⟩
      rw [← hss] at hcO2 hs hAs
      have hsi : (s : Int) < (n : Int) := by omega
      have c0 := (hownA.cellAt s (by omega)).trans (arr_cell A hs)
      have f0 := hownA.frozenAt s
      have hA15 : A s ≤ 15 := by omega
      obtain ⟨x, hx⟩ : ∃ x, x = A s := ⟨_, rfl⟩
      rw [← hx] at c0 hA15
      have S0 := (hownA.stored s (.int .i64 ((x + 1 : Nat) : Int))).1
      rw [arr_set A (x := x + 1) hs] at S0
      have S1 := Lib.hid S0
      have HO := Lib.hid (hout.setCell s (.int .i64 ((x + 1 : Nat) : Int)))
      have HNEW : Hid ((∀ p, p < m → (fun v => if v = s then x + 1 else A v) (d p) = lqC X p + if p < j + 1 then 1 else 0) ∧ (∀ v, (∀ p, p < m → d p ≠ v) → (fun v => if v = s then x + 1 else A v) v = 0)) := by
       refine ⟨fun p hp => ?_, fun v hv => ?_⟩
       ·show (if d p = s then x + 1 else A (d p)) = _
        by_cases e : p = j
        ·subst e
         rw [if_pos hss.symm, if_pos (by omega), hx, hAs]
        ·rw [if_neg (fun h => e (hcome.inj hp hjm (h.trans hss))), hA.out.1 p hp]
         congr 1
         split <;> split <;> omega
       ·show (if v = s then x + 1 else A v) = 0
        rw [if_neg (fun h => hv j hjm (by rw [h, hss])), hA.out.2 v hv]
      clear S0 hAs hAl hss hx hcO
      have hcast : ((x + 1 : Nat) : Int) = (x : Int) + 1 := by omega
      go_wp2
      go_roundw
      case rel => exact ⟨j + 1, _, by omega, by go_num, by have h := S1.out; rw [hcast] at h; exact h, by have h := HO.out; rw [hcast] at h; exact h, HNEW⟩
      case measure => simp [intOf]; omega
     ·obtain rfl : j = a := by omega
      have hji : ¬ (j : Int) < (j : Int) := by omega
      go_wp2
      go_roundw
      case rel => exact ⟨i + 1, A, by omega, by go_num, hownA, hout, ⟨fun p hp => by rw [hA.out.1 p hp, HT.out, ← HX.out], hA.out.2⟩⟩
      case measure => simp [intOf]; omega
   ·obtain rfl : i = L := by omega
    have hil : ¬ (i : Int) < (i : Int) := by omega
    go_wp2
    go_ret2
    refine ⟨q, rfl, m, d, A, own_base2 hownA (by have := HQ.out; omega), ⟨hcome, HM2.out, fun p hp => ?_, hA.out.2⟩, ?_⟩
    ·unfold lenP
     rw [if_neg HM.out, hA.out.1 p hp, ← HB.out, List.take_of_length_le (by rw [HBL.out]; exact Nat.le_refl _)]
    ·have h1 : Below w1.heap.size w1 wr := by
      rw [← HQ.out]
      exact hbq5.trans ((hout.below (lo := q) (by omega)).mono (Nat.le_refl _))
     exact hb1.trans (h1.mono hw1)
end
section
open Go.RowKit
set_option maxRecDepth 100000
set_option linter.unusedVariables false
theorem sumF_ind (f : Nat → Nat) {s n : Nat} (h : s < n) : sumF (fun v => if v = s then f v else 0) n = f s := by
 induction n with
 | zero => omega
 | succ n ih =>
  rw [sumF_succ]
  by_cases e : s = n
  ·subst e
   rw [if_pos rfl, sumF_zero fun i hi => if_neg (by omega), Nat.zero_add]
  ·rw [ih (by omega), if_neg (fun h => e h.symm), Nat.add_zero]
theorem sum_places (g : Nat → Nat) (d : Nat → Nat) (n : Nat) : ∀ k, (∀ p, p < k → d p < n) → sumF (fun p => g (d p)) k = sumF (fun v => g v * cnD d v k) n := by
 intro k
 induction k with
 | zero => intro _; exact (sumF_zero fun v _ => Nat.mul_zero (g v)).symm
 | succ k ih =>
  intro h
  rw [sumF_succ, ih fun p hp => h p (by omega), ← sumF_ind g (h k (by omega)), ← sumF_add]
  refine sumF_congr fun v _ => ?_
  rw [cnD_succ, Nat.mul_add]
  congr 1
  by_cases e : v = d k
  ·rw [if_pos e, if_pos e.symm, Nat.mul_one]
  ·rw [if_neg e, if_neg (fun h => e h.symm), Nat.mul_zero]
theorem sum_come {fr : List Int} {n m : Nat} {d : Nat → Nat} (h : Come fr n m d) (g : Nat → Nat) : sumF (fun p => g (d p)) m = sumF (fun v => if 0 < gi fr v then g v else 0) n := by
 rw [sum_places g d n m h.sym]
 refine sumF_congr fun v hv => ?_
 rw [h.cnt v]
 by_cases e : 0 < gi fr v
 ·rw [if_pos ⟨hv, e⟩, if_pos e, Nat.mul_one]
 ·rw [if_neg (fun h => e h.2), if_neg e, Nat.mul_zero]
theorem Come.find {fr : List Int} {n m : Nat} {d : Nat → Nat} (h : Come fr n m d) {v : Nat} (hv : v < n) (h0 : 0 < gi fr v) : ∃ p, p < m ∧ d p = v := by
 have h1 := h.cnt v
 rw [if_pos ⟨hv, h0⟩] at h1
 obtain ⟨j, _, h2, h3⟩ := cnD_find (d := d) (v := v) (a := 0) (b := m) (by rw [h1]; show (0 : Nat) < 1; omega)
 exact ⟨j, h2, h3⟩
theorem Come.pos {fr : List Int} {n m : Nat} {d : Nat → Nat} (h : Come fr n m d) {p : Nat} (hp : p < m) : 0 < gi fr (d p) := by
 have h1 := h.cnt (d p)
 have h2 : cnD d (d p) (p + 1) ≤ cnD d (d p) m := cnD_mono d _ (by omega)
 rw [cnD_succ, if_pos rfl] at h2
 rcases Classical.em (0 < gi fr (d p)) with h3 | h3
 ·exact h3
 ·rw [if_neg (fun h => h3 h.2)] at h1; omega
def krF (fr : List Int) (o : Nat → Nat) (n : Nat) : Nat := sumF (fun v => if 0 < gi fr v then 2 ^ (15 - o v) else 0) n
def coF (fr : List Int) (o : Nat → Nat) (n : Nat) : Nat := sumF (fun v => (gi fr v).toNat * o v) n
structure MadeX (fr : List Int) (n L m : Nat) (A : Nat → Nat) : Prop where
 pos : ∀ v, v < n → 0 < gi fr v → 1 ≤ A v
 zero : ∀ v, v < n → ¬ 0 < gi fr v → A v = 0
 most : ∀ v, A v ≤ L
 full : krF fr A n = if m = 0 then 0 else if m = 1 then 16384 else 32768
 least : ∀ o : Nat → Nat, (∀ v, v < n → 0 < gi fr v → 1 ≤ o v ∧ o v ≤ L) → krF fr o n ≤ 32768 → coF fr A n ≤ coF fr o n
 falls : ∀ i k, i < n → k < n → 0 < gi fr k → gi fr k < gi fr i → A i ≤ A k
 det : ∃ d, Made fr n L m d A
theorem MadeX.unique {fr : List Int} {n L m : Nat} {A A' : Nat → Nat} (h : MadeX fr n L m A) (h' : MadeX fr n L m A') (hn : n ≤ 1000) : A = A' := by
 obtain ⟨d, hd⟩ := h.det
 obtain ⟨d', hd'⟩ := h'.det
 exact hd.unique hd' hn
theorem pow_up {L x : Nat} (h1 : x ≤ L) (h2 : L ≤ 15) : 2 ^ (15 - x) = 2 ^ (15 - L) * 2 ^ (L - x) := by rw [← Nat.pow_add]; congr 1; omega
theorem coF_places {fr : List Int} {n m : Nat} {d : Nat → Nat} (h : Come fr n m d) (hf : ∀ i, i < n → 0 ≤ gi fr i) (o : Nat → Nat) : coF fr o n = sumF (fun p => (wD fr d m).getD p 0 * o (d p)) m := by
 have e : sumF (fun p => (wD fr d m).getD p 0 * o (d p)) m = sumF (fun p => (gi fr (d p)).toNat * o (d p)) m := sumF_congr fun p hp => by rw [wD_at fr d hp]
 rw [e, sum_come h (fun v => (gi fr v).toNat * o v)]
 refine sumF_congr fun v hv => ?_
 split
 ·rfl
 ·rename_i h1
  have := hf v hv
  rw [show (gi fr v).toNat = 0 by omega, Nat.zero_mul]
theorem Made.best {fr : List Int} {n L m : Nat} {d A : Nat → Nat} (h : Made fr n L m d A) (h2 : 2 ≤ m) (hL : 1 ≤ L) : Best (wD fr d m) L (fun p => A (d p)) := by
 obtain ⟨t, rfl⟩ : ∃ t, L = t + 1 := ⟨L - 1, by omega⟩
 have hb := best_all (wD_srt h.come) (t := t) (by rw [wD_length]; exact h2) (by rw [wD_length]; exact h.many)
 have he : ∀ p, p < m → A (d p) = lqC (bestC (wD fr d m) (t + 1)) p := fun p hp => by
  rw [h.at_ p hp]
  unfold lenP
  rw [if_neg (by omega)]
 have hl := wD_length fr d m
 refine ⟨fun j hj => ?_, fun j hj => ?_, ?_, fun i j hij hj => ?_, fun o h1 h3 => ?_⟩
 ·rw [he j (by omega)]; exact hb.one j hj
 ·rw [he j (by omega)]; exact hb.most j hj
 ·rw [← hb.full]; exact sumF_congr fun j hj => by rw [he j (by omega)]
 ·rw [he i (by omega), he j (by omega)]; exact hb.falls i j hij hj
 ·refine Nat.le_trans (Nat.le_of_eq (sumF_congr fun j hj => ?_)) (hb.least o h1 h3)
  rw [he j (by omega)]
theorem Made.ext {fr : List Int} {n L m : Nat} {d A : Nat → Nat} (h : Made fr n L m d A) (hL : 1 ≤ L) (hL2 : L ≤ 15) (hf : ∀ i, i < n → 0 ≤ gi fr i) : MadeX fr n L m A := by
 have hc := h.come
 have hz : ∀ v, v < n → ¬ 0 < gi fr v → A v = 0 := fun v hv h0 => h.none v fun p hp e => h0 (by rw [← e]; exact hc.pos hp)
 have hz2 : ∀ v, ¬ v < n → A v = 0 := fun v hv => h.none v fun p hp e => hv (by rw [← e]; exact hc.sym p hp)
 have hkr : ∀ o : Nat → Nat, krF fr o n = sumF (fun p => 2 ^ (15 - o (d p))) m := fun o => (sum_come hc (fun v => 2 ^ (15 - o v))).symm
 rcases (show m = 0 ∨ m = 1 ∨ 2 ≤ m by omega) with h0 | h1 | h2
 ·have hno : ∀ v, v < n → ¬ 0 < gi fr v := fun v hv h3 => by obtain ⟨p, hp, _⟩ := hc.find hv h3; omega
  have hall : ∀ v, A v = 0 := fun v => by
   by_cases hv : v < n
   ·exact hz v hv (hno v hv)
   ·exact hz2 v hv
  refine ⟨fun v hv h3 => absurd h3 (hno v hv), hz, fun v => by rw [hall v]; omega, ?_, fun o _ _ => ?_, fun i k hi hk h3 _ => absurd h3 (hno k hk), ⟨d, h⟩⟩
  ·rw [hkr, if_pos h0, h0]; rfl
  ·unfold coF
   rw [sumF_zero fun v _ => by rw [hall v, Nat.mul_zero]]
   exact Nat.zero_le _
 ·have hone : A (d 0) = 1 := by
   rw [h.at_ 0 (by omega)]
   unfold lenP
   rw [if_pos h1]
  have hat : ∀ v, v < n → 0 < gi fr v → v = d 0 := fun v hv h3 => by
   obtain ⟨p, hp, e⟩ := hc.find hv h3
   rw [← e, show p = 0 by omega]
  refine ⟨fun v hv h3 => by rw [hat v hv h3, hone]; exact Nat.le_refl _, hz, fun v => ?_, ?_, fun o h4 _ => ?_, fun i k hi hk h3 h4 => ?_, ⟨d, h⟩⟩
  ·by_cases hv : v < n
   ·by_cases h3 : 0 < gi fr v
    ·rw [hat v hv h3, hone]; exact hL
    ·rw [hz v hv h3]; omega
   ·rw [hz2 v hv]; omega
  ·rw [hkr, if_neg (by omega), if_pos h1, h1]
   show 0 + 2 ^ (15 - A (d 0)) = 16384
   rw [hone]
  ·rw [coF_places hc hf, coF_places hc hf, h1]
   show 0 + (wD fr d 1).getD 0 0 * A (d 0) ≤ 0 + (wD fr d 1).getD 0 0 * o (d 0)
   rw [hone, Nat.zero_add, Nat.zero_add]
   exact Nat.mul_le_mul_left _ (h4 (d 0) (hc.sym 0 (by omega)) (hc.pos (by omega))).1
  ·rw [hat i hi (by omega), hat k hk h3]; exact Nat.le_refl _
 ·have hb := h.best h2 hL
  have hl := wD_length fr d m
  have hmost : ∀ p, p < m → A (d p) ≤ L := fun p hp => hb.most p (by omega)
  refine ⟨fun v hv h3 => ?_, hz, fun v => ?_, ?_, fun o h4 h5 => ?_, fun i k hi hk h3 h4 => ?_, ⟨d, h⟩⟩
  ·obtain ⟨p, hp, e⟩ := hc.find hv h3
   rw [← e]; exact hb.one p (by omega)
  ·by_cases hv : v < n
   ·by_cases h3 : 0 < gi fr v
    ·obtain ⟨p, hp, e⟩ := hc.find hv h3
     rw [← e]; exact hmost p hp
    ·rw [hz v hv h3]; omega
   ·rw [hz2 v hv]; omega
  ·rw [hkr, if_neg (by omega), if_neg (by omega)]
   have h6 := hb.full
   rw [hl] at h6
   rw [sumF_congr fun p hp => pow_up (hmost p hp) hL2, sumF_mul, h6, ← Nat.pow_add, show 15 - L + L = 15 by omega]
  ·rw [coF_places hc hf, coF_places hc hf]
   have h6 : ∀ p, p < m → o (d p) ≤ L := fun p hp => (h4 (d p) (hc.sym p hp) (hc.pos hp)).2
   have h7 := hb.least (fun p => o (d p)) (fun j hj => h6 j (by omega)) (by
    rw [hl]
    rw [hkr, sumF_congr fun p hp => pow_up (h6 p hp) hL2, sumF_mul, show (32768 : Nat) = 2 ^ (15 - L) * 2 ^ L by rw [← Nat.pow_add, show 15 - L + L = 15 by omega]] at h5
    exact Nat.le_of_mul_le_mul_left h5 (Nat.pow_pos (by decide)))
   rw [hl] at h7
   exact h7
  ·obtain ⟨p, hp, e⟩ := hc.find hi (by omega)
   obtain ⟨r, hr, e2⟩ := hc.find hk h3
   have hpr : r ≤ p := by
    rcases Nat.lt_or_ge p r with h5 | h5
    ·have := hc.srt p r (by omega) h5 hr
     rw [e, e2] at this
     omega
    ·exact h5
   rw [← e, ← e2]
   exact hb.falls r p hpr (by omega)
end
end Go.Proofs.YtldgdofefcehnaaGreatDoor
