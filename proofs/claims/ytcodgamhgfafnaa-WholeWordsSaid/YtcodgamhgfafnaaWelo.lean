/-
  LAYER 5: the checks, and what the guess lacks. No conditions.
-/
import Derived.Test.YtcodgamhgfafnaaWelM
import Derived.Test.YtcodgamhgfafnaaWel
import Derived.Test.YtcodgamhgfafnaaLinF
import Derived.Test.YtcodgamhgfafnaaBase
import Derived.ArgAppend
namespace Go.Proofs.Ytcodgamhgfafnaa
open Go.RowKit
set_option maxRecDepth 100000
set_option linter.unusedVariables false

theorem info_chk : (Try.prog.info? 67).map (fun i => (i.zero, i.size, i.bytes)) = some (some (.agg #[.int .u8 0, .int .u8 0, .int .u8 0]), 3, 3) := by kernel_rfl
/-- a row of checks -/
structure ChkIn (w : World) (A : Option Addr) (n : Nat) (X D Z : Nat → F) : Prop where
  max : n ≤ 9223372036854775807
  top : ∃ b off, A = some ⟨b, off, none⟩ ∧ b < w.heap.size ∧ ∀ i, i < n → w.cell? ⟨b, off + i * 3, none⟩ = some (.int .u8 (X i).n) ∧ w.cell? ⟨b, off + i * 3 + 1, none⟩ = some (.int .u8 (D i).n) ∧ w.cell? ⟨b, off + i * 3 + 2, none⟩ = some (.int .u8 (Z i).n)
theorem ChkIn.below {w w' : World} {A : Option Addr} {n : Nat} {X D Z : Nat → F} (h : ChkIn w A n X D Z) (hb : Below w.heap.size w w') : ChkIn w' A n X D Z := by
  obtain ⟨b, off, e, hl, hc⟩ := h.top
  refine ⟨h.max, b, off, e, by have := hb.size; omega, fun i hi => ?_⟩
  obtain ⟨c0, c1, c2⟩ := hc i hi
  exact ⟨(hb.cell (p := ⟨b, off + i * 3, none⟩) hl).trans c0, (hb.cell (p := ⟨b, off + i * 3 + 1, none⟩) hl).trans c1, (hb.cell (p := ⟨b, off + i * 3 + 2, none⟩) hl).trans c2⟩
theorem some_at {α : Type} {L : List α} {j : Nat} (h : j < L.length) : ∃ v, L[j]? = some v := ⟨L[j], List.getElem?_eq_getElem h⟩
set_option maxHeartbeats 4000000 in
theorem checks_c (GA ZA XA YA : Option Addr) (g cg z cz n cx cy : Nat) (G Z xs ys : List F) (w : World) (hG : Row w GA g G) (hZ : Row w ZA z Z) (hx : Row w XA n xs) (hy : Row w YA n ys) (hn : n ≤ 65536) :
    Calls Try.prog 28 #[.slice GA g cg, .slice ZA z cz, .slice XA n cx, .slice YA n cy] w fun e w' => ∃ b, e = .returned (.slice (some ⟨b, 0, none⟩) n n) ∧
      ChkIn w' (some ⟨b, 0, none⟩) n (gt xs) (fun i => gt ys i + ev G (gt xs i)) (fun i => ev Z (gt xs i)) ∧ Below w.heap.size w w' := by
  obtain ⟨i0, hi, hz0, hz1, hz2⟩ := info_parts info_chk
  go_enter Try.func28, Try.ntmps28
  go_wp2_with (at_make; refine wpList_make_full _ rfl _ _ 55 rfl w.heap.size 67 i0 (.agg #[.int .u8 0, .int .u8 0, .int .u8 0]) 3 Try.underlying55 hi hz0 hz1 _ _ _ _ n rfl rfl rfl rfl (by rw [hz2]; omega) (by unfold maxLen; omega) (Nat.le_refl _) ?_; intro w0 hown0 hgrow0)
  go_wp2
  obtain ⟨L0, hL0⟩ : ∃ L0, L0 = (madeCells (Value.agg #[.int .u8 0, .int .u8 0, .int .u8 0]).cells (n * 3)).toList := ⟨_, rfl⟩
  rw [← hL0] at hown0
  clear hL0
  go_loopw [17] (fun i wr => ∃ (k : Nat) (L : List Value), k ≤ n ∧ i = .int .i64 k ∧ wr.ownsRow w.heap.size 67 3 (.slice (some ⟨w.heap.size, 0, none⟩) n n) n L ∧
    Hid (∀ j, j < k → L[j * 3]? = some (.int .u8 (gt xs j).n) ∧ L[j * 3 + 1]? = some (.int .u8 (gt ys j + ev G (gt xs j)).n) ∧ L[j * 3 + 2]? = some (.int .u8 (ev Z (gt xs j)).n)) ∧ Below w.heap.size w wr) (fun i _ => n - (intOf i).toNat)
  case atStart => exact ⟨0, L0, by omega, rfl, hown0, fun j hj => by omega, (Below.refl _ _).grown hgrow0 (Nat.le_refl _) (fun k h => by cases h)⟩
  case round =>
    obtain ⟨k, L, hk, rfl, hown, hC, hbel⟩ := hrel
    by_cases hlt : k < n
    · have hkn : (k : Int) < n := by omega
      obtain ⟨b1, o1, e1, l1, h1⟩ := hx.at_ hlt
      obtain ⟨b2, o2, e2, l2, h2⟩ := hy.at_ hlt
      subst e1 e2
      replace h1 := (hbel.cell (p := ⟨b1, o1 + k, none⟩) l1).trans h1
      replace h2 := (hbel.cell (p := ⟨b2, o2 + k, none⟩) l2).trans h2
      have hGk := hG.below hbel
      have hZk := hZ.below hbel
      have hLl : L.length = n * 3 := hown.1
      obtain ⟨v0, hv0⟩ := some_at (L := L) (j := k * 3) (by omega)
      obtain ⟨v1, hv1⟩ := some_at (L := L) (j := k * 3 + 1) (by omega)
      obtain ⟨v2, hv2⟩ := some_at (L := L) (j := k * 3 + 2) (by omega)
      have c0 := (hown.cellAt (k * 3) (by omega)).trans hv0
      have c1 := (hown.cellAt (k * 3 + 1) (by omega)).trans hv1
      have c2 := (hown.cellAt (k * 3 + 2) (by omega)).trans hv2
      have f0 := hown.frozenAt (k * 3)
      have f1 := hown.frozenAt (k * 3 + 1)
      have f2 := hown.frozenAt (k * 3 + 2)
      have s0 := (hown.stored (k * 3) (.int .u8 (gt xs k).n)).1
      have s1 := (s0.stored (k * 3 + 1) (.int .u8 (gt ys k + ev G (gt xs k)).n)).1
      have s2 := Lib.hid (s1.stored (k * 3 + 2) (.int .u8 (ev Z (gt xs k)).n)).1
      have HC2 : Hid (∀ j, j < k + 1 → (((L.set (k * 3) (.int .u8 (gt xs k).n)).set (k * 3 + 1) (.int .u8 (gt ys k + ev G (gt xs k)).n)).set (k * 3 + 2) (.int .u8 (ev Z (gt xs k)).n))[j * 3]? = some (.int .u8 (gt xs j).n) ∧ (((L.set (k * 3) (.int .u8 (gt xs k).n)).set (k * 3 + 1) (.int .u8 (gt ys k + ev G (gt xs k)).n)).set (k * 3 + 2) (.int .u8 (ev Z (gt xs k)).n))[j * 3 + 1]? = some (.int .u8 (gt ys j + ev G (gt xs j)).n) ∧ (((L.set (k * 3) (.int .u8 (gt xs k).n)).set (k * 3 + 1) (.int .u8 (gt ys k + ev G (gt xs k)).n)).set (k * 3 + 2) (.int .u8 (ev Z (gt xs k)).n))[j * 3 + 2]? = some (.int .u8 (ev Z (gt xs j)).n)) := by
        intro j hj
        simp only [List.getElem?_set]
        rcases Nat.lt_or_ge j k with h3 | h3
        · obtain ⟨d0, d1, d2⟩ := hC.out j h3
          simp only [show ¬ (k * 3 + 2 = j * 3) by omega, show ¬ (k * 3 + 1 = j * 3) by omega, show ¬ (k * 3 = j * 3) by omega, show ¬ (k * 3 + 2 = j * 3 + 1) by omega, show ¬ (k * 3 + 1 = j * 3 + 1) by omega, show ¬ (k * 3 = j * 3 + 1) by omega, show ¬ (k * 3 + 2 = j * 3 + 2) by omega, show ¬ (k * 3 + 1 = j * 3 + 2) by omega, show ¬ (k * 3 = j * 3 + 2) by omega, if_false]
          exact ⟨d0, d1, d2⟩
        · obtain rfl : j = k := by omega
          simp only [List.length_set, show ¬ (j * 3 + 2 = j * 3) by omega, show ¬ (j * 3 + 1 = j * 3) by omega, show ¬ (j * 3 + 2 = j * 3 + 1) by omega, show ¬ (j * 3 = j * 3 + 1) by omega, show ¬ (j * 3 + 1 = j * 3 + 2) by omega, show ¬ (j * 3 = j * 3 + 2) by omega, if_false, if_true, show j * 3 < L.length by omega, show j * 3 + 1 < L.length by omega, show j * 3 + 2 < L.length by omega]
          exact ⟨trivial, trivial, trivial⟩
      have HB3 : Hid (Below w.heap.size w (((wr.setCell ⟨w.heap.size, k * 3, none⟩ (.int .u8 (gt xs k).n)).setCell ⟨w.heap.size, k * 3 + 1, none⟩ (.int .u8 (gt ys k + ev G (gt xs k)).n)).setCell ⟨w.heap.size, k * 3 + 2, none⟩ (.int .u8 (ev Z (gt xs k)).n))) :=
        Below.setCell (Below.setCell (hbel.setCell (Nat.le_refl _) _) (Nat.le_refl _) _) (Nat.le_refl _) _
      clear hv0 hv1 hv2 s0 s1 hLl hC
      go_wp2
      have hGe : ∀ W : World, (∀ p, W.cell? p = wr.cell? p) → W.heap.size = wr.heap.size → Calls Try.prog 18 #[.slice GA g cg, .int .u8 (gt xs k).n] W fun e w' => e = .returned (.int .u8 (ev G (gt xs k)).n) ∧ ∃ q, w' = W.drewN q := fun W hc hs => Eval_c GA g cg G (gt xs k) W (hGk.keep (by omega) fun p _ => hc p)
      have hZe : ∀ W : World, (∀ p, W.cell? p = wr.cell? p) → W.heap.size = wr.heap.size → Calls Try.prog 18 #[.slice ZA z cz, .int .u8 (gt xs k).n] W fun e w' => e = .returned (.int .u8 (ev Z (gt xs k)).n) ∧ ∃ q, w' = W.drewN q := fun W hc hs => Eval_c ZA z cz Z (gt xs k) W (hZk.keep (by omega) fun p _ => hc p)
      have HGE := Lib.hid hGe
      have HZE := Lib.hid hZe
      clear hGe hZe hGk hZk
      go_region_with ((first | (go_at_call 21; refine (Add_c _ _ _).mono ?_; rintro e w' ⟨rfl, rfl⟩) | (go_at_call 18; first | (with_reducible refine Calls.mono (HGE.out _ (fun p => rfl) rfl) ?_; rintro e w' ⟨rfl, q1, rfl⟩) | (with_reducible refine Calls.mono (HZE.out _ (fun p => rfl) rfl) ?_; rintro e w' ⟨rfl, q2, rfl⟩))))
      all_goals go_wp2
      all_goals
        go_roundw
        case rel =>
          have hb := HB3.out
          exact ⟨k + 1, _, by omega, by go_num, s2.out, HC2.out, ⟨hb.os, hb.tape, hb.output, hb.size, hb.block⟩⟩
        case measure => simp [intOf]; omega
    · obtain rfl : k = n := by omega
      go_wp2
      go_ret
      refine ⟨_, rfl, ⟨hx.max, _, 0, rfl, (by have := hown.lt w.heap.size rfl; omega), fun i hi => ?_⟩, hbel⟩
      obtain ⟨d0, d1, d2⟩ := hC.out i hi
      rw [Nat.zero_add]
      exact ⟨(hown.cellAt (i * 3) (by omega)).trans d0, (hown.cellAt (i * 3 + 1) (by omega)).trans d1, (hown.cellAt (i * 3 + 2) (by omega)).trans d2⟩

/-- append, at a step of a region that draws its order -/
theorem step_append_ownW {P : Program} {w : World} {ops : Array Oper} {o : Oper} {a : Act} {K : Act → World → Prop} {Q : Exit → Act → World → Prop} {G : Prop} (hgd : o.guard = none) (s x : Operand) (t : TypeId)
    (ho : o.op = .call { callee := .builtin .append, args := #[s, x], argTypes := #[t, t] })
    (base : Nat) (e : TypeId) (i : TypeInfo) (z : Value) (size bytes : Nat) (ht : P.underlying t = some (.slice e)) (hi : P.info? e = some i) (hz : i.zero = some z)
    (hsize : i.size = size) (hby : i.bytes = bytes) (hzs : z.cells.size = size) (hsz : 0 < size)
    (v : Value) (n : Nat) (xs : List Value) (hs : a.eval s = v) (hown : w.ownsRow base e size v n xs)
    (ad : Addr) (m c : Nat) (news : List Value) (hx : a.eval x = .slice (some ad) m c) (hl : news.length = m * size) (hnews : ∀ j u, news[j]? = some u → w.cell? (ad.add j) = some u) (h1 : ∀ u ∈ news, u.oneCell' = true)
    (h63 : n + m ≤ maxLen) (hbytes : (n + m) * bytes ≤ 140737488355328) (hbase : base ≤ w.heap.size) (h1s : size = 1)
    (h : ∀ A c' w', w'.ownsRow base e 1 (.slice A (n + m) c') (n + m) (xs ++ news) → w.grownBy w' v.ownBlock → K (a.put o.dst (.slice A (n + m) c')) w') :
    if Region.wanted o (yielded ops a.tmps) = true then Oper.wp P o a w K Q else G := by
  subst h1s
  have hw : Region.wanted o (yielded ops a.tmps) = true := by simp [Region.wanted, hgd]
  rw [if_pos hw]
  refine wp_append_own w s x t ho base e i z 1 bytes ht hi hz hsize hby hzs hsz v n xs hs hown ad m c news hx hl hnews h1 h63 hbytes hbase fun v' w' h2 h3 _ => ?_
  obtain ⟨A, c', rfl, _⟩ := own_shape h2
  exact h A c' w' h2 h3

/-- how the checks' equations stand in memory, behind k of them -/
structure LkTop (w : World) (gR gr base n k L : Nat) (RA : Nat → Option Addr) (RC : Nat → Nat) (R : Nat → List F) (rf : Nat → F) : Prop where
  top : RowV w gR n (fun r => if r < k then .slice (RA r) L (RC r) else .slice none 0 0)
  row : ∀ r, r < k → RowIn w (RA r) L (RC r) (R r)
  far : ∀ r, r < k → ∀ b o, RA r = some ⟨b, o, none⟩ → base ≤ b
  right : RowV w gr n (fun j => if j < k then .int .u8 (rf j).n else .int .u8 0)
  lR : gR < base
  lr : gr < base
  ne : gR ≠ gr
  lb : base ≤ w.heap.size
theorem lk_start {w : World} {gR gr base n L : Nat} (RA : Nat → Option Addr) (RC : Nat → Nat) (R : Nat → List F) (rf : Nat → F) (h1 : RowV w gR n (fun _ => .slice none 0 0)) (h2 : RowV w gr n (fun _ => .int .u8 0)) (h3 : gR < base) (h4 : gr < base) (h5 : gR ≠ gr) (h6 : base ≤ w.heap.size) :
    LkTop w gR gr base n 0 L RA RC R rf :=
  ⟨h1.congr fun i _ => by rw [if_neg (by omega)], fun r hr => by omega, fun r hr => by omega, h2.congr fun i _ => by rw [if_neg (by omega)], h3, h4, h5, h6⟩
/-- one equation more -/
theorem LkTop.more {w : World} {gR gr base n k L : Nat} {RA : Nat → Option Addr} {RC : Nat → Nat} {R : Nat → List F} {rf : Nat → F} (h : LkTop w gR gr base n k L RA RC R rf) {W : World} (hb : Below w.heap.size w W) {A : Option Addr} {c : Nat} (hr : RowIn W A L c (R k)) (hA : ∀ b o, A = some ⟨b, o, none⟩ → base ≤ b) (hk : k < n) :
    LkTop ((W.setCell ⟨gR, k, none⟩ (.slice A L c)).setCell ⟨gr, k, none⟩ (.int .u8 (rf k).n)) gR gr base n (k + 1) L (fun r => if r = k then A else RA r) (fun r => if r = k then c else RC r) R rf := by
  have lR := h.lR
  have lr := h.lr
  have lb := h.lb
  have ne := h.ne
  have hs := hb.size
  have hts2 : ∀ {A' : Option Addr} {n' c' : Nat} {l : List F}, RowIn W A' n' c' l → (∀ b o, A' = some ⟨b, o, none⟩ → base ≤ b) → RowIn ((W.setCell ⟨gR, k, none⟩ (.slice A L c)).setCell ⟨gr, k, none⟩ (.int .u8 (rf k).n)) A' n' c' l := fun h1 h2 =>
    ⟨(h1.row.setOther (a := ⟨gR, k, none⟩) (fun b o e => by have := h2 b o e; show b ≠ gR; omega) _).setOther (a := ⟨gr, k, none⟩) (fun b o e => by have := h2 b o e; show b ≠ gr; omega) _, h1.le, h1.max⟩
  refine ⟨?_, fun r hr' => ?_, fun r hr' b o e => ?_, ?_, lR, lr, ne, by simp [World.setCell]; omega⟩
  · refine (((h.top.below hb (by omega)).set k (.slice A L c)).setOther (a := ⟨gr, k, none⟩) ne _).congr fun j hj => ?_
    by_cases e : j = k
    · subst e; rw [if_pos rfl, if_pos (by omega), if_pos rfl, if_pos rfl]
    · rw [if_neg e, if_neg e, if_neg e]
      by_cases e2 : j < k
      · rw [if_pos e2, if_pos (by omega)]
      · rw [if_neg e2, if_neg (by omega)]
  · by_cases e : r = k
    · subst e
      rw [if_pos rfl, if_pos rfl]
      exact hts2 hr hA
    · rw [if_neg e, if_neg e]
      exact hts2 ((h.row r (by omega)).below hb) (h.far r (by omega))
  · by_cases e2 : r = k
    · rw [if_pos e2] at e
      exact hA b o e
    · rw [if_neg e2] at e
      exact h.far r (by omega) b o e
  · refine (((h.right.below hb (by omega)).setOther (a := ⟨gR, k, none⟩) (Ne.symm ne) _).set k (.int .u8 (rf k).n)).congr fun j hj => ?_
    by_cases e : j = k
    · subst e; rw [if_pos rfl, if_pos (by omega)]
    · rw [if_neg e]
      by_cases e2 : j < k
      · rw [if_pos e2, if_pos (by omega)]
      · rw [if_neg e2, if_neg (by omega)]
/-- all of them are rows that came in -/
theorem LkTop.min {w : World} {gR gr base n L : Nat} {RA : Nat → Option Addr} {RC : Nat → Nat} {R : Nat → List F} {rf : Nat → F} (h : LkTop w gR gr base n n L RA RC R rf) (hn : n ≤ maxLen) : MIn w (some ⟨gR, 0, none⟩) n n RA (fun _ => L) RC R :=
  ⟨Nat.le_refl _, hn, fun _ => ⟨gR, 0, rfl, h.top.lt, fun r hr => by rw [Nat.zero_add, h.top.cell hr, if_pos hr]⟩, h.row⟩
theorem LkTop.rightRow {w : World} {gR gr base n L : Nat} {RA : Nat → Option Addr} {RC : Nat → Nat} {R : Nat → List F} {rf : Nat → F} (h : LkTop w gR gr base n n L RA RC R rf) (hn : n ≤ maxLen) : Row w (some ⟨gr, 0, none⟩) n (mkF rf n) :=
  ⟨mkF_length _ _, hn, fun _ => ⟨gr, 0, rfl, h.right.lt, fun j hj => by rw [Nat.zero_add, h.right.cell hj, if_pos hj, gt_mkF, if_pos hj]⟩⟩
/-- a power of few, by Pow's own number -/
theorem pwZ_few (a : F) {k : Nat} (hk : k < 255) : pwZ a k = pw a k := by
  unfold pwZ
  by_cases ha : a = 0
  · subst ha
    rw [if_pos rfl]
    by_cases h0 : k = 0
    · subst h0; rfl
    · rw [if_neg (by omega), zero_pw k (by omega)]
  · rw [if_neg ha, show ((k : Int) % 255).toNat = k by omega]
/-- the checks' equations -/
def LkEq (m few : Nat) (X D Zv : Nat → F) (v : List F) : Prop := ∀ i, i < m → dt (few + few) (rowC (D i) (Zv i) (X i) few) (gt v) = D i * pw (X i) few
/-- what lacking tells -/
def LkSpec (Z : List F) (m few : Nat) (X D Zv : Nat → F) (ul : List F) (ok : Bool) : Prop :=
  (ok = false ∧ ¬ ∃ v : List F, v.length = few + few ∧ LkEq m few X D Zv v) ∨
  ∃ v p r : List F, v.length = few + few ∧ LkEq m few X D Zv v ∧ (∀ i, gt p i = gt (pmul Z (v.drop few)) i) ∧ IsDiv p (v.take few ++ [1]) ul r ∧ ok = decide (r = [])
theorem gt_row {D Zv X : Nat → F} {few i j : Nat} (hj : j < few + few) : gt (scaleF (mkF (pw (X i)) few) (D i) ++ scaleF (mkF (pw (X i)) few) (Zv i)) j = rowC (D i) (Zv i) (X i) few j := by
  unfold rowC
  rw [gt_append, scale_length, mkF_length]
  by_cases h : j < few
  · rw [if_pos h, if_pos h, gt_scale, gt_mkF, if_pos h, mul_comm]
  · rw [if_neg h, if_neg h, gt_scale, gt_mkF, if_pos (by omega), mul_comm]
theorem two_made (w : World) (m : Nat) (z1 z2 : Value) (t1 t2 : TypeId) : RowV ((w.alloc (.cells (madeCells #[z1] m) t1)).alloc (.cells (madeCells #[z2] m) t2)) w.heap.size m (fun _ => z1) ∧ RowV ((w.alloc (.cells (madeCells #[z1] m) t1)).alloc (.cells (madeCells #[z2] m) t2)) (w.heap.size + 1) m (fun _ => z2) := by
  refine ⟨(RowV.ofIs (World.rowIs_made w z1 m t1)).alloc _, ?_⟩
  have h := RowV.ofIs (World.rowIs_made (w.alloc (.cells (madeCells #[z1] m) t1)) z2 m t2)
  rw [show (w.alloc (.cells (madeCells #[z1] m) t1)).heap.size = w.heap.size + 1 by simp] at h
  exact h
theorem Row.same {w w' : World} {A : Option Addr} {n : Nat} {l : List F} (h : Row w A n l) (hh : w'.heap = w.heap) : Row w' A n l := h.keep (by rw [hh]; exact Nat.le_refl _) fun p _ => by unfold World.cell?; rw [hh]
theorem LkTop.same {w w' : World} {gR gr base n k L : Nat} {RA : Nat → Option Addr} {RC : Nat → Nat} {R : Nat → List F} {rf : Nat → F} (h : LkTop w gR gr base n k L RA RC R rf) (hh : w'.heap = w.heap) : LkTop w' gR gr base n k L RA RC R rf :=
  ⟨h.top.of_block (by rw [hh]), fun r hr => ⟨(h.row r hr).row.same hh, (h.row r hr).le, (h.row r hr).max⟩, h.far, h.right.of_block (by rw [hh]), h.lR, h.lr, h.ne, by rw [hh]; exact h.lb⟩
theorem LkTop.cells {w W : World} {gR gr base n k L : Nat} {RA : Nat → Option Addr} {RC : Nat → Nat} {R : Nat → List F} {rf : Nat → F} (h : LkTop w gR gr base n k L RA RC R rf) (hb : Below w.heap.size w W) (hk : k < n) :
    W.cell? ⟨gR, k, none⟩ = some (.slice none 0 0) ∧ W.frozen? ⟨gR, k, none⟩ = false ∧ W.cell? ⟨gr, k, none⟩ = some (.int .u8 0) ∧ W.frozen? ⟨gr, k, none⟩ = false := by
  have lR := h.lR
  have lr := h.lr
  have lb := h.lb
  have h1 := h.top.below hb (by omega)
  have h2 := h.right.below hb (by omega)
  refine ⟨(h1.cell hk).trans (by rw [if_neg (by omega)]), h1.frozen k, (h2.cell hk).trans (by rw [if_neg (by omega)]), h2.frozen k⟩
theorem LkTop.right6 {w W : World} {gR gr base n k L : Nat} {RA : Nat → Option Addr} {RC : Nat → Nat} {R : Nat → List F} {rf : Nat → F} (h : LkTop w gR gr base n k L RA RC R rf) (hb : Below w.heap.size w W) (hk : k < n) (v : Value) :
    (W.setCell ⟨gR, k, none⟩ v).cell? ⟨gr, k, none⟩ = some (.int .u8 0) ∧ (W.setCell ⟨gR, k, none⟩ v).frozen? ⟨gr, k, none⟩ = false := by
  have lr := h.lr
  have lb := h.lb
  have h2 := (h.right.below hb (by omega)).setOther (a := ⟨gR, k, none⟩) (Ne.symm h.ne) v
  exact ⟨(h2.cell hk).trans (by rw [if_neg (by omega)]), h2.frozen k⟩

set_option maxHeartbeats 4000000 in
theorem lacking_c (ZA KA : Option Addr) (z cz m ck few : Nat) (Z : List F) (X D Zv : Nat → F) (w : World) (hZ : RowIn w ZA z cz Z) (hK : ChkIn w KA m X D Zv) (hz : z ≤ 65536) (hm : m ≤ 255) (hf : few ≤ 127) (h0 : m = 0 → few = 0) :
    Calls Try.prog 29 #[.slice ZA z cz, .slice KA m ck, .int .i64 few] w fun e w' => ∃ UA u cu ul ok, e = .returned (.tuple #[.slice UA u cu, .bool ok]) ∧ RowIn w' UA u cu ul ∧ Below w.heap.size w w' ∧ LkSpec Z m few X D Zv ul ok := by
  obtain ⟨i0, hi, hz0, hz1, hz2⟩ := info_parts info_u8
  have hmk1 := run_make_row' (P := Try.prog) 68 22 (.slice none 0 0) 24 Try.underlying68 info_bytes rfl .i64 .i64 m (by omega) (by omega)
  have hmk2 := run_make_row' (P := Try.prog) 22 5 (.int .u8 0) 1 Try.underlying22 info_u8 rfl .i64 .i64 m (by omega) (by omega)
  obtain ⟨b, off, rfl, hl, hc⟩ := hK.top
  have hW : Hid (wid m (fun _ => few + few) = few + few) := by
    unfold Hid wid
    split
    · have := h0 (by assumption); omega
    · rfl
  clear h0 hK
  go_enter Try.func29, Try.ntmps29
  go_wp2
  go_region
  all_goals
    go_wp2
    first
      | (obtain ⟨W0, hW0⟩ : ∃ W0, W0 = ((w.alloc (.cells (madeCells #[.slice none 0 0] m) 22)).alloc (.cells (madeCells #[.int .u8 0] m) 5)) := ⟨_, rfl⟩
         rw [← hW0]
         obtain ⟨gR, hgR⟩ : ∃ g, g = w.heap.size := ⟨_, rfl⟩
         obtain ⟨gr, hgr⟩ : ∃ g, g = w.heap.size + 1 := ⟨_, rfl⟩
         rw [← hgr, ← hgR]
         have hT0 : LkTop W0 gR gr (w.heap.size + 2) m 0 (few + few) (fun _ => none) (fun _ => 0) (fun i => scaleF (mkF (pw (X i)) few) (D i) ++ scaleF (mkF (pw (X i)) few) (Zv i)) (fun i => D i * pw (X i) few) := by
           subst hW0 hgR hgr
           exact lk_start _ _ _ _ (two_made w m (.slice none 0 0) (.int .u8 0) 22 5).1 (two_made w m (.slice none 0 0) (.int .u8 0) 22 5).2 (by omega) (by omega) (by omega) (by simp)
         have hg : Hid (w.heap.size ≤ gR ∧ w.heap.size ≤ gr) := ⟨by omega, by omega⟩
         have hb0 : Below w.heap.size w W0 := by
           subst hW0
           exact ((Below.refl _ _).alloc (Nat.le_refl _) _).alloc (by simp) _
         clear hW0 hgR hgr)
      | (obtain ⟨W0, hW0⟩ : ∃ W0, W0 = ((w.alloc (.cells (madeCells #[.int .u8 0] m) 5)).alloc (.cells (madeCells #[.slice none 0 0] m) 22)) := ⟨_, rfl⟩
         rw [← hW0]
         obtain ⟨gr, hgr⟩ : ∃ g, g = w.heap.size := ⟨_, rfl⟩
         obtain ⟨gR, hgR⟩ : ∃ g, g = w.heap.size + 1 := ⟨_, rfl⟩
         rw [← hgR, ← hgr]
         have hT0 : LkTop W0 gR gr (w.heap.size + 2) m 0 (few + few) (fun _ => none) (fun _ => 0) (fun i => scaleF (mkF (pw (X i)) few) (D i) ++ scaleF (mkF (pw (X i)) few) (Zv i)) (fun i => D i * pw (X i) few) := by
           subst hW0 hgR hgr
           exact lk_start _ _ _ _ (two_made w m (.int .u8 0) (.slice none 0 0) 5 22).2 (two_made w m (.int .u8 0) (.slice none 0 0) 5 22).1 (by omega) (by omega) (by omega) (by simp)
         have hg : Hid (w.heap.size ≤ gR ∧ w.heap.size ≤ gr) := ⟨by omega, by omega⟩
         have hb0 : Below w.heap.size w W0 := by
           subst hW0
           exact ((Below.refl _ _).alloc (Nat.le_refl _) _).alloc (by simp) _
         clear hW0 hgR hgr)
    go_loopw [27] (fun i wr => ∃ (k : Nat) (RA : Nat → Option Addr) (RC : Nat → Nat), k ≤ m ∧ i = .int .i64 k ∧
      LkTop wr gR gr (w.heap.size + 2) m k (few + few) RA RC (fun i => scaleF (mkF (pw (X i)) few) (D i) ++ scaleF (mkF (pw (X i)) few) (Zv i)) (fun i => D i * pw (X i) few) ∧ Below w.heap.size w wr) (fun i _ => m - (intOf i).toNat)
    case atStart => exact ⟨0, _, _, by omega, rfl, hT0.same rfl, ⟨hb0.os, hb0.tape, hb0.output, hb0.size, hb0.block⟩⟩
    case round =>
      obtain ⟨k, RA, RC, hk, rfl, hT, hbel⟩ := hrel
      by_cases hlt : k < m
      · have hkn : (k : Int) < m := by omega
        obtain ⟨c0, c1, c2⟩ := hc k hlt
        replace c0 := (hbel.cell (p := ⟨b, off + k * 3, none⟩) hl).trans c0
        replace c1 := (hbel.cell (p := ⟨b, off + k * 3 + 1, none⟩) hl).trans c1
        replace c2 := (hbel.cell (p := ⟨b, off + k * 3 + 2, none⟩) hl).trans c2
        have HPW : Hid (pwZ (X k) (few : Int) = pw (X k) few) := pwZ_few _ (by omega)
        clear hc hW hZ hmk1 hmk2 hT0 hb0
        go_wp2_with fail
        refine (powersOf_c (X k) few (by omega) _).mono ?_
        rintro e w2 ⟨gp, rfl, hownp, hb2⟩
        have hsz1 : (wr.alloc (.cells #[.int .u8 (X k).n, .int .u8 (D k).n, .int .u8 (Zv k).n] 67)).heap.size = wr.heap.size + 1 := by simp
        have B1 : Blk (wr.alloc (.cells #[.int .u8 (X k).n, .int .u8 (D k).n, .int .u8 (Zv k).n] 67)) wr.heap.size 67 #[.int .u8 (X k).n, .int .u8 (D k).n, .int .u8 (Zv k).n] := Blk.new wr _ _
        have B2 : Blk w2 wr.heap.size 67 #[.int .u8 (X k).n, .int .u8 (D k).n, .int .u8 (Zv k).n] := B1.below (by rw [hsz1]; omega) hb2
        have hb12 : Below wr.heap.size wr w2 := ((Below.refl wr.heap.size wr).alloc (Nat.le_refl _) _).trans (hb2.mono (by rw [hsz1]; omega))
        have HL2 : Hid (wr.heap.size < w2.heap.size) := by unfold Hid; have := hb2.size; rw [hsz1] at this; omega
        have k1 : w2.cell? ⟨wr.heap.size, 1, none⟩ = some (.int .u8 (D k).n) := B2.cell 1
        have k2 : w2.cell? ⟨wr.heap.size, 2, none⟩ = some (.int .u8 (Zv k).n) := B2.cell 2
        have hpr : Row w2 (some ⟨gp, 0, none⟩) few (mkF (pw (X k)) few) := (own_in hownp).row
        have HB12 := Lib.hid hb12
        have HT := Lib.hid hT
        have HBL := Lib.hid hbel
        have HG := Lib.hid hg.out
        have HLS : Hid (w.heap.size + 2 ≤ wr.heap.size) := hT.lb
        have HLP : Hid ((mkF (pw (X k)) few).length = few) := mkF_length _ _
        clear hsz1 B1 hb2 hb12 hownp c0 c1 c2 hT hbel hg
        go_wp2
        go_region_held3 (fun w' => w'.cell? ⟨wr.heap.size, 1, none⟩ = some (.int .u8 (D k).n) ∧ w'.cell? ⟨wr.heap.size, 2, none⟩ = some (.int .u8 (Zv k).n))
          (first
            | go_keep
            | (go_split_ands
               refine ⟨?_, ?_⟩
               · (rw [hb3.cell (p := ⟨wr.heap.size, 1, none⟩) HL2.out]; assumption)
               · (rw [hb3.cell (p := ⟨wr.heap.size, 2, none⟩) HL2.out]; assumption))
            | (go_split_ands
               refine ⟨?_, ?_⟩
               · (rw [hb4.cell (p := ⟨wr.heap.size, 1, none⟩) HL3.out]; assumption)
               · (rw [hb4.cell (p := ⟨wr.heap.size, 2, none⟩) HL3.out]; assumption))
            | (go_split_ands
               refine ⟨?_, ?_⟩
               · (rw [hg5.cell_far ⟨wr.heap.size, 1, none⟩ HL4.out HN5.out]; assumption)
               · (rw [hg5.cell_far ⟨wr.heap.size, 2, none⟩ HL4.out HN5.out]; assumption))
            | exact ⟨k15.out, k25.out⟩)
          (first
            | (go_at_call 24
               first
                 | (with_reducible refine (Scale_c (some ⟨gp, 0, none⟩) few few (mkF (pw (X k)) few) (D k) _ (by exact hpr.drew) (by omega)).mono ?_
                    rintro e w3 ⟨g3, rfl, hown3, hb3⟩
                    have HL3 : Hid (wr.heap.size < w3.heap.size) := Nat.lt_of_lt_of_le HL2.out hb3.size
                    have hp3 := hpr.drew.below hb3)
                 | (with_reducible refine (Scale_c (some ⟨gp, 0, none⟩) few few (mkF (pw (X k)) few) (Zv k) _ (by exact hp3) (by omega)).mono ?_
                    rintro e w4 ⟨g4, rfl, hown4, hb4⟩
                    have HL4 : Hid (wr.heap.size < w4.heap.size) := Nat.lt_of_lt_of_le HL3.out hb4.size
                    have hge3 := (hown3.lt g3 rfl).1
                    have HN5 : Hid (some wr.heap.size ≠ (Value.slice (some ⟨g3, 0, none⟩) few few).ownBlock) := fun e => by
                      injection e with e
                      have h1 := HL2.out
                      have h2 : w2.heap.size ≤ g3 := hge3
                      have h3 : wr.heap.size = g3 := e
                      omega))
            | (refine step_append_ownW (by rfl) (.tmp 41) (.tmp 45) _ (by rfl) w2.drew.heap.size 5 i0 _ 1 1 Try.underlying22 hi hz0 hz1 hz2 rfl (by omega) (.slice (some ⟨g3, 0, none⟩) few few) few (cs (scaleF (mkF (pw (X k)) few) (D k))) (by rfl) (own_below hown3 hb4) ⟨g4, 0, none⟩ few few (cs (scaleF (mkF (pw (X k)) few) (Zv k))) (by rfl) (by rw [cs_length, scale_length, HLP.out, Nat.mul_one]) ((own_in hown4).row.cells) (cs_one _) (by unfold maxLen; omega) (by omega) (Nat.le_trans hb3.size hb4.size) rfl ?_
               intro A5 c5 w5 hown5 hg5
               have hB5 : Below wr.heap.size wr w5 := ((((HB12.out).drew).trans (hb3.mono (Nat.le_of_lt HL2.out))).trans (hb4.mono (Nat.le_of_lt HL3.out))).grown hg5 (Nat.le_of_lt HL4.out) (fun x hx => Nat.le_trans (Nat.le_of_lt HL2.out) (hown3.lt x hx).1)
               obtain ⟨qR, fR, qr, fr⟩ := HT.out.cells hB5 hlt
               have hne : wr.heap.size ≠ gR := by have := HT.out.lR; have := HLS.out; omega
               have B5 : Blk (w5.setCell ⟨gR, k, none⟩ (.slice A5 (few + few) c5)) wr.heap.size 67 #[.int .u8 (X k).n, .int .u8 (D k).n, .int .u8 (Zv k).n] :=
                 Blk.setOther (Blk.kept (Blk.below (Blk.below (B2.drew) HL2.out hb3) HL3.out hb4) hg5 ⟨HL4.out, Ne.symm HN5.out⟩) (a := ⟨gR, k, none⟩) hne _
               have k15 := Lib.hid (B5.cell 1)
               have k25 := Lib.hid (B5.cell 2)))
        have hrow5 : RowIn w5 A5 (few + few) c5 (scaleF (mkF (pw (X k)) few) (D k) ++ scaleF (mkF (pw (X k)) few) (Zv k)) := by
          rw [← cs_append] at hown5
          exact own_in hown5
        have far5 : ∀ b o, A5 = some ⟨b, o, none⟩ → w.heap.size + 2 ≤ b := fun b o e => by
          subst e
          have h1 : w2.heap.size ≤ b := (hown5.lt b rfl).1
          have h2 := HL2.out
          have h3 := HLS.out
          omega
        have HM := Lib.hid (HT.out.more hB5 hrow5 far5 hlt)
        obtain ⟨qr6, fr6⟩ := HT.out.right6 hB5 hlt (.slice A5 (few + few) c5)
        have k06 := B5.cell 0
        have k16 := B5.cell 1
        have HB7 : Hid (Below w.heap.size w ((w5.setCell ⟨gR, k, none⟩ (.slice A5 (few + few) c5)).setCell ⟨gr, k, none⟩ (.int .u8 (D k * pw (X k) few).n))) := ((HBL.out.trans (hB5.mono HBL.out.size)).setCell HG.out.1 _).setCell HG.out.2 _
        clear hrow5 far5 hown5 hg5 hB5 hown4 hb4 hown3 hb3 hpr hp3 k15 k25 B5 B2 k1 k2 qR fR qr fr HBL HT HB12 hge3
        go_wp2
        go_region_with ((first | (go_at_call 37; refine (Pow_c _ _ _).mono ?_; rw [HPW.out]; rintro e w' ⟨rfl, rfl⟩) | (go_at_call 30; refine (Mul_c _ _ _).mono ?_; rintro e w' ⟨rfl, rfl⟩)))
        all_goals go_wp2
        all_goals
          go_roundw
          case rel =>
            have hb := HB7.out
            exact ⟨k + 1, _, _, by omega, by go_num, HM.out.same rfl, ⟨hb.os, hb.tape, hb.output, hb.size, hb.block⟩⟩
          case measure => simp [intOf]; omega
      · obtain rfl : k = m := by omega
        clear hT0 hb0 hc
        have hsol := Solve_yes (hT.min (by unfold maxLen; omega)) (some ⟨gr, 0, none⟩) k (mkF (fun i => D i * pw (X i) few) k) (hT.rightRow (by unfold maxLen; omega)) (fun r _ => rfl) (by omega) (by rw [hW.out]; omega)
        rw [hW.out] at hsol
        obtain ⟨L, hL⟩ : ∃ L, L = few + few := ⟨_, rfl⟩
        rw [← hL] at hsol
        have HSOL := Lib.hid hsol
        have HL := Lib.hid hL
        have hZr := Lib.hid (hZ.below hbel)
        clear hsol hL hT hmk1 hmk2
        go_wp2_with fail
        refine HSOL.out.mono ?_
        rintro e w8 ⟨hres, hb8⟩
        have hB8 := hbel.trans (hb8.mono hbel.size)
        rcases hres with ⟨hC, g, xl, rfl, hown8, hsx⟩ | ⟨hC, rfl⟩
        · have hvEq : LkEq k few X D Zv xl := by
            intro i hi
            have h1 := (sol_right _ _ hsx).2 (by rw [HL.out] at hC ⊢; exact hC) i hi
            rw [gt_mkF, if_pos hi] at h1
            rw [← h1, HL.out]
            exact dt_congr (fun j hj => (gt_row hj).symm) (fun j hj => rfl)
          have HV := Lib.hid hvEq
          have hxl : xl.length = L := by have := own_len hown8; exact this
          have HXL := Lib.hid hxl
          have hLi : (few : Int) ≤ (L : Int) := by have := HL.out; omega
          have hrow8 := (own_in hown8).row
          have HT8 : Hid (∀ j u, (cs (xl.take few))[j]? = some u → w8.cell? ((⟨g, 0, none⟩ : Addr).add j) = some u) := ((hrow8.take (k := few) (by have := HL.out; omega)).cells)
          have HLT : Hid ((cs (xl.take few)).length = few * 1) := by unfold Hid; rw [cs_length, List.length_take, HXL.out, Nat.mul_one]; have := HL.out; omega
          clear hC hsx hvEq hxl
          have HAP : Hid (∀ o b, some (⟨g, 0, none⟩ : Addr) = some b → ∀ j u, (cs (xl.take few))[j]? = some u → (w8.alloc o).cell? (b.add j) = some u) := fun o b e j u hj => by
            injection e with e
            subst e
            exact ((hrow8.take (k := few) (by have := HL.out; omega)).alloc o).cells j u hj
          have HONE : Hid (cs (xl.take few) ++ [Value.int .u8 1] = cs (xl.take few ++ [1])) := by unfold Hid; rw [cs_append]; rfl
          have HZ8 := Lib.hid (hZr.out.below hb8)
          have HB8 := Lib.hid hB8
          have HR8 := Lib.hid hrow8
          have hL254 : L ≤ 254 := by have := HL.out; omega
          have HTOP : Hid (tr (xl.take few ++ [1]) ≠ []) := fun e => by
            have h1 := (tr_nil_iff _).1 e few
            rw [fd_top xl few (by rw [HXL.out]; have := HL.out; omega)] at h1
            exact one_ne_zero h1
          have HFL : Hid ((xl.take few ++ [1]).length = few + 1) := by unfold Hid; rw [List.length_append, List.length_take, HXL.out]; have := HL.out; simp; omega
          clear hrow8 HT8 hB8 hb8 hown8 hZr HSOL hW hbel hg
          go_wp2_with (first
            | (at_builtin
               refine wpList_append_grows _ rfl (.tmp 70) (.tmp 71) 22 rfl 5 i0 (.int .u8 0) 1 1 Try.underlying22 hi hz0 hz1 hz2 rfl (by decide) (some ⟨g, 0, none⟩) few few (cs (xl.take few)) rfl (fun e => by cases e) HLT.out (HAP.out _) ⟨w8.heap.size, 0, none⟩ 1 1 [.int .u8 1] rfl rfl ((Blk.new w8 5 #[.int .u8 1]).news) (by simp [Value.oneCell']) (by omega) (by unfold maxLen; omega) (by omega) ?_
               intro v9 w9 hown9 hg9
               rw [HONE.out] at hown9
               obtain ⟨A9, c9, rfl, hF9⟩ := own_row_in hown9 rfl
               have hB89 : Below w8.heap.size w8 w9 := ((Below.refl w8.heap.size w8).alloc (Nat.le_refl _) _).grown hg9 (by simp) (fun x hx => by cases hx)
               have HB9 := Lib.hid (HB8.out.trans (hB89.mono HB8.out.size))
               have HZ9 := Lib.hid (HZ8.out.below hB89)
               have HR9 := Lib.hid (HR8.out.below hB89)
               have HD0 : Hid (L = few → xl.drop few = []) := fun e => List.drop_eq_nil_of_le (by rw [HXL.out]; omega)
               have HQ9 : Hid (Row w9 (some ⟨g, few, none⟩) (L - few) (xl.drop few)) := by
                 have h1 := HR9.out
                 refine ⟨by rw [List.length_drop, HXL.out], by unfold maxLen; omega, fun hp => ?_⟩
                 obtain ⟨b1, o1, e1, l1, q1⟩ := h1.2.2 (by omega)
                 injection e1 with e1
                 injection e1 with e1 e2
                 subst e1 e2
                 refine ⟨_, _, rfl, l1, fun i hi => ?_⟩
                 rw [gt_drop, ← q1 (few + i) (by omega), Nat.zero_add])
            | (go_at_call 25
               first
                 | (with_reducible refine (Mul_poly ZA (some ⟨g, few, none⟩) z (L - few) cz (L - few) Z (xl.drop few) _ HZ9.out.row HQ9.out HZ9.out.le (Nat.le_refl _) HZ9.out.max (by unfold maxLen; omega) (by omega) (by omega)).mono ?_
                    rintro e w10 ⟨A10, t10, c10, rfl, hown10, hb10⟩)
                 | (with_reducible refine (Mul_poly ZA (some ⟨g, 0, none⟩) z 0 cz 0 Z [] _ HZ9.out.row (Row.nil _ _) HZ9.out.le (Nat.le_refl _) HZ9.out.max (by unfold maxLen; omega) (by omega) (by omega)).mono ?_
                    rintro e w10 ⟨A10, t10, c10, rfl, hown10, hb10⟩
                    rw [← HD0.out (by assumption)] at hown10)
               have ht10 : t10 ≤ 200000 := by
                 have h1 : (tr (pmul Z (xl.drop few))).length = t10 := own_len hown10
                 have h2 := tr_short (l := pmul Z (xl.drop few)) (n := (pmul Z (xl.drop few)).length) (fun i hi => gt_ge hi)
                 have h3 := pmul_length_le Z (xl.drop few)
                 rw [List.length_drop, HXL.out, HZ9.out.row.len] at h3
                 omega
               have hF10 := hF9.below hb10)
            | (go_at_call 39
               refine (DivMod_ok A10 A9 t10 (few + 1) c10 c9 (tr (pmul Z (xl.drop few))) (xl.take few ++ [1]) _ (own_in hown10) hF10 (by omega) HTOP.out).mono ?_
               rintro e w11 ⟨U, u, cu, ul, R, r, cr, rl, rfl, hU, hR, hdiv, hb11⟩
               have HRL : Hid (((r : Int) == 0) = decide (rl = [])) := by
                 have h1 := hR.row.len
                 unfold Hid
                 rw [Bool.eq_iff_iff, beq_iff_eq, decide_eq_true_iff, ← List.length_eq_zero_iff]
                 omega))
          all_goals
            go_ret2
            exact ⟨U, u, cu, ul, _, rfl, hU, (HB9.out.trans (hb10.mono HB9.out.size)).trans (hb11.mono (by have := HB9.out.size; have := hb10.size; omega)), .inr ⟨xl, _, rl, by rw [HXL.out, HL.out], HV.out, gt_tr _, hdiv, HRL.out⟩⟩
        · have hno : Hid (LkSpec Z k few X D Zv [] false) := by
            refine .inl ⟨rfl, fun ⟨v, hv, he⟩ => hC ?_⟩
            rw [HL.out]
            refine sol_any _ _ (x := gt v) fun i hi => ?_
            rw [gt_mkF, if_pos hi, ← he i hi]
            exact dt_congr (fun j hj => gt_row hj) (fun j hj => rfl)
          clear hC
          go_wp2
          go_ret2
          exact ⟨none, 0, 0, [], false, rfl, RowIn.nil_ _, hB8, hno.out⟩
end Go.Proofs.Ytcodgamhgfafnaa
