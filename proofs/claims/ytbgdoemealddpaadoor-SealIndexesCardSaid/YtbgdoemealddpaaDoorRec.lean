/-
  RECORDS OF NUMBERS: rows of numbers as bytes, what stands at a place, bytes in a box, readers beside a box, comparisons (WRITTEN by wip/genrec.py out of law 18's texts: never import both). No conditions.
-/
import Derived.Test.YtbgdoemealddpaaDoorLitC
import Derived.Test.YtbgdoemealddpaaDoorJoin
import Derived.Lib.MinMax
import Derived.Lib.Hide
import Derived.Laws.Strings
import Derived.Laws.CopyRow
import Derived.Laws.ResultCell
import Derived.Deep.RegionHeld3
import Derived.Deep.RegionLaw
import Derived.Deep.RegionWith
import Derived.Deep.AppendLies
namespace Go.Proofs.YtbgdoemealddpaaDoor
open Go.RowKit
set_option maxRecDepth 100000
set_option linter.unusedVariables false

theorem wfI (k : Nat) (h : k < 9223372036854775808) : (Lit.int .i64 (k : Int)).wf = true := by
  have hmin : IntKind.i64.min = -9223372036854775808 := rfl
  have hmax : IntKind.i64.max = 9223372036854775807 := rfl
  simp only [Lit.wf, Bool.and_eq_true, decide_eq_true_eq]
  omega
theorem below_setRowS {B : Nat} {a w : World} (h : Below B a w) {g : Nat} (hg : B ≤ g) (D : Array Value) : Below B a (w.setRow g D) :=
  ⟨h.os, h.tape, h.output, by simpa [World.setRow] using h.size, fun k hk => by
    have e : (w.setRow g D).heap[k]? = w.heap[k]? := by
      simp [World.setRow, Array.getElem?_modify]
      intro e
      omega
    exact e.trans (h.block k hk)⟩
/-- numbers, each in so many bytes -/
def nsB : List (Nat × Nat) → List F
  | [] => []
  | p :: r => putL p.1 p.2 ++ nsB r
def nsN : List (Nat × Nat) → Nat
  | [] => 0
  | p :: r => p.2 + nsN r
theorem nsB_length (P : List (Nat × Nat)) : (nsB P).length = nsN P := by
  induction P with
  | nil => rfl
  | cons p r ih => show (putL p.1 p.2 ++ nsB r).length = p.2 + nsN r; rw [List.length_append, putL_length, ih]
theorem nsB_append (P Q : List (Nat × Nat)) : nsB (P ++ Q) = nsB P ++ nsB Q := by
  induction P with
  | nil => rfl
  | cons p r ih => show putL p.1 p.2 ++ nsB (r ++ Q) = putL p.1 p.2 ++ nsB r ++ nsB Q; rw [ih, List.append_assoc]
theorem nsN_append (P Q : List (Nat × Nat)) : nsN (P ++ Q) = nsN P + nsN Q := by
  induction P with
  | nil => show nsN Q = 0 + nsN Q; omega
  | cons p r ih => show p.2 + nsN (r ++ Q) = p.2 + nsN r + nsN Q; rw [ih]; omega
/-- each number is one, and takes at most eight bytes -/
def NsOk (P : List (Nat × Nat)) : Prop := ∀ p ∈ P, p.1 < two64 ∧ p.2 ≤ 8
theorem nsN_le {P : List (Nat × Nat)} (h : NsOk P) : nsN P ≤ 8 * P.length := by
  induction P with
  | nil => exact Nat.le_refl _
  | cons p r ih =>
    have h1 := (h p (List.mem_cons_self ..)).2
    have h2 := ih (fun q hq => h q (List.mem_cons_of_mem _ hq))
    show p.2 + nsN r ≤ 8 * (r.length + 1)
    omega
theorem held_le8 {k : Nat} (h : k ≤ 8) : heldN ((k : Nat) : Int) 8 = k := by unfold heldN; omega
set_option maxHeartbeats 2000000 in
theorem RNumbers_c (A : Option Addr) (n ca : Nat) (B : Option Addr) (m cb : Nat) (P : List (Nat × Nat)) (hP : NsOk P) (hn : n ≤ 1000) (w : World) (hA : IRow w A n .u64 (P.map fun p => (p.1 : Int))) (hB : IRow w B n .i64 (P.map fun p => (p.2 : Int))) :
    Calls Tryd.prog 30 #[.slice A n ca, .slice B n cb] w fun e w' => ∃ D c N, e = .returned (.slice D N c) ∧ w'.ownsRow w.heap.size 5 1 (.slice D N c) N (cs (nsB P)) ∧ N = nsN P ∧ Below w.heap.size w w' := by
  obtain ⟨i0, hi, hz0, hz1, hz2⟩ := info_parts info_u8
  have hlen : P.length = n := by have := hA.len; rwa [List.length_map] at this
  have HP := Lib.hid hP
  have HA := Lib.hid hA
  have HB := Lib.hid hB
  have HL := Lib.hid hlen
  clear hP hA hB hlen
  go_enter Tryd.func30, Tryd.ntmps30
  go_wp2
  go_loopw [5, 6] (fun ov iv wr => ∃ (k c : Nat) (V : Option Addr), k ≤ n ∧ iv = .int .i64 k ∧ ov = .slice V (nsN (P.take k)) c ∧ Hid (wr.ownsRow w.heap.size 5 1 (.slice V (nsN (P.take k)) c) (nsN (P.take k)) (cs (nsB (P.take k)))) ∧ Hid (Below w.heap.size w wr)) (fun _ iv _ => n - (intOf iv).toNat)
  case atStart => exact ⟨0, 0, _, by omega, rfl, rfl, World.ownsRow_lit (base := w.heap.size) (e := 5) (size := 1) w #[] 0 (Nat.le_refl _) (by unfold maxLen; omega) rfl, (Below.refl _ _).alloc (Nat.le_refl _) _⟩
  case round =>
    obtain ⟨k, c, V, hk, rfl, rfl, hown, hbel⟩ := hrel
    by_cases hlt : k < n
    · have hkn : (k : Int) < n := by omega
      obtain ⟨b1, o1, rfl, l1, q1⟩ := HA.out.at_ hlt
      obtain ⟨b2, o2, rfl, l2, q2⟩ := HB.out.at_ hlt
      have hkP : k < P.length := by rw [HL.out]; exact hlt
      have htk : P.take (k + 1) = P.take k ++ [P[k]] := List.take_succ_eq_append_getElem hkP
      have hok := HP.out P[k] (List.getElem_mem hkP)
      have e1 : gi (P.map fun p => (p.1 : Int)) k = (P[k].1 : Int) := by simp [gi, hkP]
      have e2 : gi (P.map fun p => (p.2 : Int)) k = (P[k].2 : Int) := by simp [gi, hkP]
      rw [e1] at q1
      rw [e2] at q2
      have hle : nsN (P.take k) ≤ 8 * k := by
        have := nsN_le (P := P.take k) (fun p hp => HP.out p (List.mem_of_mem_take hp))
        rw [List.length_take] at this
        omega
      have hcat : Hid (nsB (P.take (k + 1)) = nsB (P.take k) ++ putL P[k].1 P[k].2) := by
        unfold Hid
        rw [htk, nsB_append]
        show _ ++ (putL _ _ ++ []) = _
        rw [List.append_nil]
      have hcn : nsN (P.take (k + 1)) = nsN (P.take k) + P[k].2 := by
        rw [htk, nsN_append]
        rfl
      generalize P[k].1 = v at *
      generalize P[k].2 = s at *
      generalize nsB (P.take k) = Y at *
      generalize nsN (P.take k) = N at *
      have hs9 := hok.2
      have hs8 := held_le8 hs9
      have hv := hok.1
      clear htk e1 e2 hok hkP
      have r1 := (hbel.out.cell (p := ⟨b1, o1 + k, none⟩) (by exact l1)).trans q1
      have r2 := (hbel.out.cell (p := ⟨b2, o2 + k, none⟩) (by exact l2)).trans q2
      go_wp2
      go_region_held3 (fun w' => w'.cell? ⟨b1, o1 + k, none⟩ = some (.int .u64 (v : Nat)) ∧ w'.cell? ⟨b2, o2 + k, none⟩ = some (.int .i64 (s : Nat))) (first
          | go_keep
          | (go_split_ands
             exact ⟨(HB3.cell (p := ⟨b1, o1 + k, none⟩) (by exact l1)).trans q1, (HB3.cell (p := ⟨b2, o2 + k, none⟩) (by exact l2)).trans q2⟩)
          | (go_split_ands
             exact ⟨(HB4.cell (p := ⟨b1, o1 + k, none⟩) (by exact l1)).trans q1, (HB4.cell (p := ⟨b2, o2 + k, none⟩) (by exact l2)).trans q2⟩))
          ((first
            | (refine step_append_row i0 hi hz0 hz1 hz2 (by rfl) (.tmp 14) (.tmp 23) (by rfl) w.heap.size (.slice V N c) N (cs Y) (by simp [go_sem]) HO3 A3 s c3 (putL v s) (by simp [go_sem]) (Row.of_own hown3) (by omega) HB3.size ?_
               intro v4 w4 hL
               obtain ⟨A4, c4, rfl, hown4, hg4, hnw4⟩ := hL
               have HB4 : Below w.heap.size w w4 := HB3.grown hg4 HB3.size (fun g hg => (HO3.lt g hg).1))
            | (go_at_call 31
               refine (RefPut_c v hv (s : Int) _).mono ?_
               rintro e w3 ⟨A3, c3, rfl, hown3, hb3⟩
               rw [hs8] at hown3
               rw [hs8]
               have HB3 : Below w.heap.size w w3 := (below_drewN hbel.out 1).trans (hb3.mono hbel.out.size)
               have HO3 : w3.ownsRow w.heap.size 5 1 (.slice V N c) N (cs Y) := own_below (show (wr.drewN 1).ownsRow w.heap.size 5 1 (.slice V N c) N (cs Y) from hown.out) hb3)))
      rw [← cs_append, ← hcat.out, ← hcn] at hown4
      have HO4 := Lib.hid hown4
      clear hown4 hg4 hnw4
      go_wp2
      go_roundw
      case rel => exact ⟨k + 1, c4, A4, by omega, by go_num, by rw [hcn], HO4, Lib.hid HB4⟩
      case measure => simp [intOf]; omega
    · have hkn : ¬ (k : Int) < n := by omega
      obtain rfl : k = n := by omega
      have ht : P.take k = P := by rw [← HL.out, List.take_length]
      rw [ht] at hown ⊢
      go_wp2
      go_ret
      exact ⟨V, c, _, rfl, hown.out, rfl, hbel.out⟩
theorem WOut.ofBelowL {p : Nat} {a : Option Nat} {w w' : World} (h : Below w.heap.size w w') : WOut p a a w w' := ⟨h.os, h.tape, h.output, h.size, fun k hk _ _ => h.block k hk, .inl rfl⟩
/-- bytes in a box -/
structure BxO (w : World) (q base : Nat) (V : Option Addr) (N c : Nat) (Y : List F) : Prop where
  blk : Blk w q 27 #[.slice V N c]
  own : w.ownsRow base 5 1 (.slice V N c) N (cs Y)
  ne : ∀ g, (Value.slice V N c).ownBlock = some g → g ≠ q
  lo : base ≤ q
theorem BxO.lt {w : World} {q base : Nat} {V : Option Addr} {N c : Nat} {Y : List F} (h : BxO w q base V N c Y) : q < w.heap.size := h.blk.lt
theorem BxO.below {w w' : World} {q base : Nat} {V : Option Addr} {N c : Nat} {Y : List F} (h : BxO w q base V N c Y) (hb : Below w.heap.size w w') : BxO w' q base V N c Y := ⟨h.blk.below h.lt hb, own_below h.own hb, h.ne, h.lo⟩
theorem own_woutL {p base n c : Nat} {e : TypeId} {a b : Option Nat} {A : Option Addr} {xs : List Value} {w w' : World} (h : WOut p a b w w') (ho : w.ownsRow base e 1 (.slice A n c) n xs) (hne : ∀ g, (Value.slice A n c).ownBlock = some g → g ≠ p ∧ a ≠ some g) : w'.ownsRow base e 1 (.slice A n c) n xs := by
  refine ⟨ho.1, ?_⟩
  rcases ho.2 with hn | ⟨g, cap, cur, hv, hbg, hg, rest⟩
  · exact .inl hn
  · have h1 := hne g (by rw [hv]; rfl)
    exact .inr ⟨g, cap, cur, hv, hbg, (h.block g (Array.getElem?_eq_some_iff.1 hg).1 h1.1 h1.2).trans hg, rest⟩
/-- more bytes, and the box holds them -/
theorem BxO.more {w w3 w4 : World} {q base : Nat} {V V4 : Option Addr} {N N4 c c4 : Nat} {Y Y4 : List F} (h : BxO w q base V N c Y) (h3 : Below w.heap.size w w3)
    (hown : w4.ownsRow base 5 1 (.slice V4 N4 c4) N4 (cs Y4)) (hg : w3.grownBy w4 (Value.slice V N c).ownBlock) (hnw : (Value.slice V4 N4 c4).ownBlock = (Value.slice V N c).ownBlock ∨ ∀ g, (Value.slice V4 N4 c4).ownBlock = some g → w3.heap.size ≤ g) :
    BxO (w4.setCell ⟨q, 0, none⟩ (.slice V4 N4 c4)) q base V4 N4 c4 Y4 ∧ WOut q (Value.slice V N c).ownBlock (Value.slice V4 N4 c4).ownBlock w (w4.setCell ⟨q, 0, none⟩ (.slice V4 N4 c4)) := by
  have hq := h.lt
  have hs := h3.size
  have hne4 : ∀ g, (Value.slice V4 N4 c4).ownBlock = some g → g ≠ q := fun g hg4 => by
    rcases hnw with e | e
    · rw [e] at hg4
      exact h.ne g hg4
    · have := e g hg4
      omega
  have hb4 : Blk w4 q 27 #[.slice V N c] := (h.blk.below hq h3).kept hg ⟨by omega, fun e => h.ne q e rfl⟩
  have ho : WOut q (Value.slice V N c).ownBlock (Value.slice V4 N4 c4).ownBlock w w4 :=
    ⟨hg.os.trans h3.os, hg.tape.trans h3.tape, hg.output.trans h3.output, Nat.le_trans hs hg.size, fun k hk hp ha => (hg.block k (by omega) (fun e => ha e.symm)).trans (h3.block k hk), by
      rcases hnw with e | e
      · exact .inl e
      · exact .inr fun g hg4 => by have := e g hg4; omega⟩
  refine ⟨⟨hb4.set_ 0 _, ?_, hne4, h.lo⟩, ho.setP 0 _⟩
  exact own_woutL (a := none) (b := none) ((WOut.refl q none w4).setP 0 _) hown fun g hg4 => ⟨hne4 g hg4, fun e => by cases e⟩
/-- the number of so many bytes at a place -/
def atL (l : List F) (from_ size : Nat) : Nat := getL (((l.drop from_).take size).take 8)
theorem atL_eq (l : List F) (from_ size : Nat) (h : size ≤ 8) : atL l from_ size = getL ((l.drop from_).take size) := by
  unfold atL
  rw [List.take_take, Nat.min_eq_right h]
theorem atL_lt (l : List F) (f s : Nat) (h : s ≤ 8) : atL l f s < 256 ^ s := by
  rw [atL_eq l f s h]
  exact Nat.lt_of_lt_of_le (getL_lt _) (Nat.pow_le_pow_right (by decide) (by rw [List.length_take]; omega))
theorem atL_skip (v k : Nat) (X : List F) (f s : Nat) (h : k ≤ f) : atL (putL v k ++ X) f s = atL X (f - k) s := by
  unfold atL
  rw [List.drop_append, putL_length, List.drop_eq_nil_of_le (by rw [putL_length]; exact h), List.nil_append]
theorem atL_past (Y X : List F) (f s : Nat) (h : Y.length ≤ f) : atL (Y ++ X) f s = atL X (f - Y.length) s := by
  unfold atL
  rw [List.drop_append, List.drop_eq_nil_of_le h, List.nil_append]
theorem atL_here (v k : Nat) (X : List F) (h : k ≤ 8) : atL (putL v k ++ X) 0 k = v % 256 ^ k := by
  rw [atL_eq _ _ _ h, List.drop_zero, List.take_append_of_le_length (by rw [putL_length]; exact Nat.le_refl _), List.take_of_length_le (by rw [putL_length]; exact Nat.le_refl _), getL_putL]
theorem atL_take (l : List F) (n f s : Nat) (h : f + s ≤ n) : atL (l.take n) f s = atL l f s := by
  have e : ((l.take n).drop f).take s = (l.drop f).take s := by rw [List.drop_take, List.take_take, Nat.min_eq_left (by omega)]
  unfold atL
  rw [e]
theorem atL_drop (l : List F) (a f s : Nat) : atL (l.drop a) f s = atL l (a + f) s := by
  unfold atL
  rw [List.drop_drop]
theorem atL_lt2 (l : List F) (f : Nat) : atL l f 2 < 65536 := atL_lt l f 2 (by omega)
theorem atL_lt4 (l : List F) (f : Nat) : atL l f 4 < 4294967296 := atL_lt l f 4 (by omega)
theorem atL_lt8 (l : List F) (f : Nat) : atL l f 8 < two64 := atL_lt l f 8 (by omega)
theorem Blk.lowB {w w' : World} {g B : Nat} {t : TypeId} {C : Array Value} (h : Blk w g t C) (hg : g < B) (hb : Below B w w') : Blk w' g t C := (hb.block g hg).trans h
theorem results_cell_tt {fn : Func} {p u v : Tmp} {ty : TypeId} (h : fn.results = #[.cell p ty, .tmp u, .tmp v]) (tmps : Array Value) (P : Program) (w : World) :
    (results fn tmps).run P w =
      ((asAddr (tmps.getD p undef)).run P w).andThen fun a w₁ => ((loadVar ty a).run P w₁).andThen fun x w₂ => .ok (.tuple #[x, tmps.getD u undef, tmps.getD v undef]) w₂ := by
  simp only [results, h]
  simp [Sem.run_bind, Result.andThen]
theorem Read_d (A : Option Addr) (n c : Nat) (l : List F) (w : World) (h : Row w A n l) (hn : n ≤ 140737488355328) :
    Calls Tryd.prog 52 #[.slice A n c] w fun e w' => ∃ p A' c', e = .returned (.pointer (some ⟨p, 0, none⟩)) ∧ Rdr w' p A' n c' l 0 false ∧ w.heap.size ≤ p ∧ Below w.heap.size w w' ∧ ∀ b o, A' = some ⟨b, o, none⟩ → w.heap.size ≤ b := by
  go_enter Tryd.func52, Tryd.ntmps52
  go_wp2_with (go_at_call 42; refine (Clone_c A n c l _ h hn).mono ?_; rintro e w1 ⟨A', c', rfl, hown, hbel⟩)
  go_ret
  have hin := own_in hown
  refine ⟨w1.heap.size, A', c', rfl, ⟨Blk.new w1 _ _, ⟨hin.row.alloc _, hin.le, hin.max⟩, by omega, fun b o e => ?_⟩, hbel.size, hbel.alloc hbel.size _, fun b o e => ?_⟩
  · subst e
    have := (hown.lt b rfl).2
    omega
  · subst e
    exact (hown.lt b rfl).1
/-- while a header is read: the box that it is laid in, the reader -/
structure RdSt (w W : World) (T : TypeId) (H : Array Value) (p : Nat) (A : Option Addr) (n c : Nat) (l : List F) (k : Nat) : Prop where
  box : Blk W w.heap.size T H
  rd : Rdr W p A n c l k false
  lo : w.heap.size + 1 ≤ p
  alo : ∀ b o, A = some ⟨b, o, none⟩ → w.heap.size + 1 ≤ b
  bel : Below w.heap.size w W
section
variable {w W : World} {T : TypeId} {H : Array Value} {p : Nat} {A : Option Addr} {n c : Nat} {l : List F} {k : Nat}
theorem RdSt.lt (h : RdSt w W T H p A n c l k) : w.heap.size < W.heap.size := h.box.lt
theorem RdSt.out {W' : World} {k' : Nat} (h : RdSt w W T H p A n c l k) (hr : Rdr W' p A n c l k' false) (ho : Out p (p + 1) W W') : RdSt w W' T H p A n c l k' := by
  have hlo := h.lo
  have hlt := h.lt
  have hb : Below (w.heap.size + 1) W W' := ho.lowAt hlo h.rd.lt
  exact ⟨h.box.lowB (by omega) hb, hr, hlo, h.alo, h.bel.trans (hb.mono (by omega))⟩
theorem RdSt.set (h : RdSt w W T H p A n c l k) (i : Nat) (v : Value) : RdSt w (W.setCell ⟨w.heap.size, i, none⟩ v) T (H.setIfInBounds i v) p A n c l k := by
  have ho : Out w.heap.size (w.heap.size + 1) W (W.setCell ⟨w.heap.size, i, none⟩ v) := (Out.refl _ _ W).setCell i v
  have hlo := h.lo
  exact ⟨h.box.set_ i v, h.rd.out ho (by omega) (fun b o e => by have := h.alo b o e; omega), hlo, h.alo, h.bel.trans (ho.lowAt (Nat.le_refl _) h.lt)⟩
theorem RdSt.num (h : RdSt w W T H p A n c l k) (s : Nat) (z : Int) (hz : z = (s : Int)) (hs : s ≤ 8) (hk : k + s ≤ n) :
    Calls Tryd.prog 53 #[.pointer (some ⟨p, 0, none⟩), .int .i64 z] W fun e w' => e = .returned (.int .u64 (atL l k s : Nat)) ∧ RdSt w w' T H p A n c l (k + s) := by
  subst hz
  have h8 := held_le8 hs
  have hn := Num_ok h.rd (s : Int) (by rw [h8]; exact hk)
  rw [h8] at hn
  refine hn.mono ?_
  rintro e w' ⟨rfl, hr, ho⟩
  rw [atL_eq _ _ _ hs]
  exact ⟨rfl, h.out hr ho⟩
end
theorem strB_listL (l : List F) : (strB l).toList = l.map toB := by
  rw [ByteArray.toList_eq]
  simp [strB]
theorem strB_beqL (l m : List F) : ((strB l).toList == (strB m).toList) = decide (l = m) := by
  rw [strB_listL, strB_listL]
  by_cases h : l = m
  · subst h; simp
  · rw [decide_eq_false h, beq_eq_false_iff_ne]
    exact fun e => h ((List.map_inj_right (fun x y e => e)).1 e)
/-- a row of numbers that was just laid -/
theorem irow_blk {W : World} {g : Nat} {t : TypeId} {C : Array Value} {k : IntKind} (h : Blk W g t C) (zs : List Int) (n : Nat) (hC : C = (zs.map (Value.int k)).toArray) (hn : zs.length = n) (hm : n ≤ maxLen) (hw : ∀ z ∈ zs, (Lit.int k z).wf = true) : IRow W (some ⟨g, 0, none⟩) n k zs := by
  subst hn hC
  refine ⟨rfl, hm, fun _ => ⟨g, 0, rfl, h.lt, fun i hi => ?_⟩, fun i hi => ?_⟩
  · rw [Nat.zero_add, h.cell i]
    simp [gi, hi]
  · unfold gi
    rw [List.getD_eq_getElem?_getD, List.getElem?_eq_getElem hi]
    exact hw _ (List.getElem_mem _)
theorem wfU64 (k : Nat) (h : k < two64) : (Lit.int .u64 (k : Int)).wf = true := by
  unfold two64 at h
  simp [Lit.wf, IntKind.min, IntKind.max, IntKind.bits, IntKind.signed]
  omega
theorem below_drewL {B : Nat} {a w : World} (h : Below B a w) : Below B a w.drew := below_drewN h 1
/-- three rows, one behind the other -/
theorem Join3_c {w : World} {A B D : Option Addr} {a b d ca cb cd : Nat} {la lb ld : List F} (hA : RowIn w A a ca la) (hB : RowIn w B b cb lb) (hD : RowIn w D d cd ld) (h1 : a ≤ 1000000) (h2 : b ≤ 1000000) (h3 : d ≤ 1000000) (T : TypeId) (g : Nat) (hg : g = w.heap.size) :
    Calls Tryd.prog 29 #[.slice (some ⟨g, 0, none⟩) 3 3] (w.alloc (.cells #[.slice A a ca, .slice B b cb, .slice D d cd] T)) fun e w' => ∃ E N c, e = .returned (.slice E N c) ∧ w'.ownsRow w.heap.size 5 1 (.slice E N c) N (cs (la ++ (lb ++ ld))) ∧ N = a + b + d ∧ Below w.heap.size w w' := by
  subst hg
  have hM := rows_lit (w := w) (n := 3) (RA := th3 A B D) (RL := th3 a b d) (RC := th3 ca cb cd) (R := th3 la lb ld) (fun r hr => by
    rcases (show r = 0 ∨ r = 1 ∨ r = 2 by omega) with rfl | rfl | rfl
    · exact hA
    · exact hB
    · exact hD) #[.slice A a ca, .slice B b cb, .slice D d cd] (fun r hr => by
    rcases (show r = 0 ∨ r = 1 ∨ r = 2 by omega) with rfl | rfl | rfl <;> rfl) T (by unfold maxLen; omega)
  refine (Join_c hM (by omega) (fun r hr => by
    rcases (show r = 0 ∨ r = 1 ∨ r = 2 by omega) with rfl | rfl | rfl
    · show a ≤ _; omega
    · show b ≤ _; omega
    · show d ≤ _; omega)).mono ?_
  rintro e w' ⟨g, c, rfl, hown, hb⟩
  have hj : joinTo (th3 la lb ld) 3 = la ++ (lb ++ ld) := by
    show (([] ++ la) ++ lb) ++ ld = _
    rw [List.nil_append, List.append_assoc]
  have hl : lenTo (th3 a b d) 3 = a + b + d := by
    show ((0 + a) + b) + d = _
    omega
  rw [hj] at hown
  have hba := (Below.refl w.heap.size w).alloc (Nat.le_refl _) (.cells #[.slice A a ca, .slice B b cb, .slice D d cd] T)
  exact ⟨_, _, c, rfl, own_base2 hown (by simp), hl, hba.trans (hb.mono (by simp))⟩
theorem Blk.setRowO {w : World} {k g : Nat} {t : TypeId} {C : Array Value} (h : Blk w k t C) (hne : k ≠ g) (D : Array Value) : Blk (w.setRow g D) k t C := by
  have e : (w.setRow g D).heap[k]? = w.heap[k]? := by
    simp [World.setRow, Array.getElem?_modify]
    intro e
    omega
  exact e.trans h
/-- a part of a variable is stored -/
theorem wpList_store_at {P : Program} {w : World} {ops : Array Oper} {rest : List Oper} {a : Act} {Q : Exit → Act → World → Prop} {p x : Operand} {T ty : TypeId} {pos : String} {aft : Array Edge} (ad : Addr) (v : Value) (w' : World)
    (hp : a.eval p = .pointer (some ad)) (hx : a.eval x = v) (hrun : Sem.run P (storeVar T ad v) w = .ok () w') (hK : wpList P ops Q rest a w') :
    wpList P ops Q ({ dst := none, op := Op.store T p x, type := ty, pos := pos, after := aft, guard := none } :: rest) a w := by
  refine wpList_plain rfl fun K hK' => ?_
  have hr : (Instr.storeAt T (.pointer (some ad)) v).run P w = .ok () w' := by
    simp only [Instr.storeAt, Instr.sureAddr, Sem.run_bind, Sem.run_pure, Result.andThen]
    exact hrun
  unfold Oper.wp
  simp [execOp, hp, hx, hr, Result.andThen]
  exact hK' _ _ hK
/-- of whatever two rows -/
theorem SameA_c (A B : Option Addr) (n m ca cb : Nat) (a b : List F) (w : World) (ha : Row w A n a) (hb : Row w B m b) :
    Calls Tryd.prog 12 #[.slice A n ca, .slice B m cb] w fun e w' => e = .returned (.bool (decide (a = b))) ∧ ∃ q, w' = w.drewN q := by
  by_cases h : n = m
  · subst h
    exact Same_d A B n ca cb a b w ha hb
  · have hne : a ≠ b := fun e => h (by rw [← ha.len, ← hb.len, e])
    rw [decide_eq_false hne]
    refine (Same_len A B n m ca cb w h ha.max hb.max).mono ?_
    rintro e _ ⟨rfl, rfl⟩
    exact ⟨rfl, 0, rfl⟩
structure BxP (Z : Prop) : Prop where
  out : Z
theorem cut_in {Z T : Prop} (f : BxP Z → T) (z : Z) : T := f ⟨z⟩
theorem own_firstB {w : World} {base g c n m : Nat} {e : TypeId} {xs ys : List Value} (h : w.ownsRow base e 1 (.slice (some ⟨g, 0, none⟩) (n + m) c) (n + m) (xs ++ ys)) (hx : xs.length = n) : w.ownsRow base e 1 (.slice (some ⟨g, 0, none⟩) n c) n xs := by
  refine ⟨by omega, ?_⟩
  rcases h.2 with ⟨hv, _⟩ | ⟨g', cap', cur, hv, hb, hg, h1, h2, h3, h4⟩
  · cases hv
  · injection hv with hv1 _ hv3
    injection hv1 with hv1
    injection hv1 with hv1
    subst hv1 hv3
    refine .inr ⟨g, c, cur, rfl, hb, hg, by omega, h2, h3, ?_⟩
    have h5 := congrArg (List.take n) h4
    rw [List.take_take, List.take_append_of_le_length (show n ≤ xs.length by omega), List.take_of_length_le (show xs.length ≤ n by omega)] at h5
    rw [Nat.mul_one, ← h5]
    congr 1
    omega
theorem wpList_append_keepsB {P : Program} (w : World) {ops : Array Oper} {rest : List Oper} {o : Oper} {a : Act} {Q : Exit → Act → World → Prop}
    (hg : o.guard = none) (s x : Operand) (t : TypeId) (hop : o.op = Op.call { callee := Callee.builtin Builtin.append, args := #[s, x], argTypes := #[t, t] })
    (base : Nat) (e : TypeId) (i : TypeInfo) (z : Value) (bytes : Nat) (h1 : P.underlying t = some (.slice e)) (h2 : P.info? e = some i) (h3 : i.zero = some z) (h4 : i.size = 1) (h5 : i.bytes = bytes) (h6 : z.cells.size = 1)
    (g n cap : Nat) (xs : List Value) (hs : a.eval s = .slice (some ⟨g, 0, none⟩) n cap) (hown : w.ownsRow base e 1 (.slice (some ⟨g, 0, none⟩) n cap) n xs) (ad : Addr) (m c : Nat) (news : List Value) (hx : a.eval x = .slice (some ad) m c) (hn : news.length = m * 1)
    (hc : ∀ j u, news[j]? = some u → w.cell? (ad.add j) = some u) (h1c : ∀ u ∈ news, u.oneCell' = true) (b1 : n + m ≤ maxLen) (b2 : (n + m) * bytes ≤ 140737488355328) (hbase : base ≤ w.heap.size)
    (hK : ∀ v' w', w'.ownsRow base e 1 v' (n + m) (xs ++ news) → w'.ownsRow base e 1 (.slice (some ⟨g, 0, none⟩) n cap) n xs → w.grownBy w' (some g) → wpList P ops Q rest (a.put o.dst v') w') :
    wpList P ops Q (o :: rest) a w := by
  have hxl : xs.length = n := by have := hown.1; omega
  by_cases hr : n + m ≤ cap
  · refine wpList_append_fits w hg s x t hop base e i 1 h1 h2 h4 g n cap xs hs hown ad m c news hx hn hc h1c hr fun w' r1 r2 => ?_
    exact hK _ w' r1 (own_firstB r1 hxl) r2
  · refine wpList_append_grows w hg s x t hop e i z 1 bytes h1 h2 h3 h4 h5 h6 (by decide) (some ⟨g, 0, none⟩) n cap xs hs (fun h => by cases h) (by omega) (fun b hb j u hu => ?_) ad m c news hx hn hc h1c (by omega) b1 b2 fun v' w' r1 r2 => ?_
    · injection hb with hb
      subst hb
      have hj : j < n := by rw [← hxl]; exact (List.getElem?_eq_some_iff.1 hu).1
      have e2 : (⟨g, 0, none⟩ : Addr).add j = ⟨g, j, none⟩ := by unfold Addr.add; split <;> simp_all
      rw [e2, hown.cellAt j (by omega)]
      exact hu
    · refine hK v' w' (own_base2 r1 hbase) (hown.kept r2 (by simp [Value.ownBlock])) ?_
      exact ⟨r2.os, r2.tape, r2.output, r2.size, fun k hk _ => r2.block k hk (by simp)⟩
theorem results_cell_oneL {P : Program} {fn : Func} {p : Tmp} {ty : TypeId} (h : fn.results = #[.cell p ty]) (tmps : Array Value) (w : World) :
    (results fn tmps).run P w = ((asAddr (tmps.getD p undef)).run P w).andThen fun a w₁ => (loadVar ty a).run P w₁ := by
  simp only [results, h]
  simp [Sem.run_bind, Result.andThen]
theorem SameT_c (A B : Option Addr) (n m ca cb : Nat) (a : List F) (w : World) (ha : Row w A n a) (hb : Row w B m a) :
    Calls Tryd.prog 12 #[.slice A n ca, .slice B m cb] w fun e w' => e = .returned (.bool true) ∧ ∃ q, w' = w.drewN q := by
  have h := SameA_c A B n m ca cb a a w ha hb
  rw [decide_eq_true rfl] at h
  exact h
end Go.Proofs.YtbgdoemealddpaaDoor
