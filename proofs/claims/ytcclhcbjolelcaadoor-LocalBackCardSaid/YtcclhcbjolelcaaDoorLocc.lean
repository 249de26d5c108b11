/-
  LOCAL HEADERS: the closure that lays numbers behind the bytes in a box. No conditions.
-/
import Derived.Test.YtcclhcbjolelcaaDoorLocb
namespace Go.Proofs.YtcclhcbjolelcaaDoor
open Go.RowKit
set_option maxRecDepth 100000
set_option linter.unusedVariables false

def gp (P : List (Nat × Nat)) (i : Nat) : Nat × Nat := P.getD i (0, 0)
/-- a row of numbers, each with how many bytes it takes -/
structure PRow (w : World) (A : Option Addr) (n : Nat) (P : List (Nat × Nat)) : Prop where
  len : P.length = n
  cells : ∀ i, i < n → ∃ b off, A = some ⟨b, off, none⟩ ∧ b < w.heap.size ∧ w.cell? ⟨b, off + i * 2, none⟩ = some (.int .u64 ((gp P i).1 : Nat)) ∧ w.cell? ⟨b, off + i * 2 + 1, none⟩ = some (.int .i64 ((gp P i).2 : Nat))
theorem PRow.wout {w w' : World} {C : Option Addr} {n p : Nat} {P : List (Nat × Nat)} {a b : Option Nat} (h : PRow w C n P) (ho : WOut p a b w w') (hA : ∀ b o, C = some ⟨b, o, none⟩ → b ≠ p ∧ a ≠ some b) : PRow w' C n P :=
  ⟨h.len, fun i hi => by
    obtain ⟨b, off, e, hl, c0, c1⟩ := h.cells i hi
    obtain ⟨h1, h2⟩ := hA b off e
    have hk := ho.block b hl h1 h2
    exact ⟨b, off, e, by have := ho.size; omega, (World.cell?_of_block (a := ⟨b, off + i * 2, none⟩) hk).trans c0, (World.cell?_of_block (a := ⟨b, off + i * 2 + 1, none⟩) hk).trans c1⟩⟩
theorem WOut.ofBelowL {p : Nat} {a : Option Nat} {w w' : World} (h : Below w.heap.size w w') : WOut p a a w w' := ⟨h.os, h.tape, h.output, h.size, fun k hk _ _ => h.block k hk, .inl rfl⟩
/-- bytes in a box -/
structure BxO (w : World) (q base : Nat) (V : Option Addr) (N c : Nat) (Y : List F) : Prop where
  blk : Blk w q 29 #[.slice V N c]
  own : w.ownsRow base 5 1 (.slice V N c) N (cs Y)
  ne : ∀ g, (Value.slice V N c).ownBlock = some g → g ≠ q
  lo : base ≤ q
theorem BxO.lt {w : World} {q base : Nat} {V : Option Addr} {N c : Nat} {Y : List F} (h : BxO w q base V N c Y) : q < w.heap.size := h.blk.lt
theorem BxO.below {w w' : World} {q base : Nat} {V : Option Addr} {N c : Nat} {Y : List F} (h : BxO w q base V N c Y) (hb : Below w.heap.size w w') : BxO w' q base V N c Y := ⟨h.blk.below h.lt hb, own_below h.own hb, h.ne, h.lo⟩
theorem own_woutL {p base n c : Nat} {e : TypeId} {a b : Option Nat} {A : Option Addr} {xs : List Value} {w w' : World} (h : WOut p a b w w') (ho : w.ownsRow base e 1 (.slice A n c) n xs) (hne : ∀ g, (Value.slice A n c).ownBlock = some g → g ≠ p ∧ a ≠ some g) : w'.ownsRow base e 1 (.slice A n c) n xs := by
  refine ⟨ho.1, ?_⟩
  rcases ho.2 with hn | ⟨g, cap, cur, hv, hbg, hg, rest⟩
  · exact .inl hn
  · have h1 := hne g (by rw [hv]; rfl)
    exact .inr ⟨g, cap, cur, hv, hbg, (h.block g (Array.getElem?_eq_some_iff.1 hg).1 h1.1 h1.2).trans hg, rest⟩
/-- more bytes, and the box holds them -/
theorem BxO.more {w w3 w4 : World} {q base : Nat} {V V4 : Option Addr} {N N4 c c4 : Nat} {Y Y4 : List F} (h : BxO w q base V N c Y) (h3 : Below w.heap.size w w3)
    (hown : w4.ownsRow base 5 1 (.slice V4 N4 c4) N4 (cs Y4)) (hg : w3.grownBy w4 (Value.slice V N c).ownBlock) (hnw : (Value.slice V4 N4 c4).ownBlock = (Value.slice V N c).ownBlock ∨ ∀ g, (Value.slice V4 N4 c4).ownBlock = some g → w3.heap.size ≤ g) :
    BxO (w4.setCell ⟨q, 0, none⟩ (.slice V4 N4 c4)) q base V4 N4 c4 Y4 ∧ WOut q (Value.slice V N c).ownBlock (Value.slice V4 N4 c4).ownBlock w (w4.setCell ⟨q, 0, none⟩ (.slice V4 N4 c4)) := by
  have hq := h.lt
  have hs := h3.size
  have hne4 : ∀ g, (Value.slice V4 N4 c4).ownBlock = some g → g ≠ q := fun g hg4 => by
    rcases hnw with e | e
    · rw [e] at hg4
      exact h.ne g hg4
    · have := e g hg4
      omega
  have hb4 : Blk w4 q 29 #[.slice V N c] := (h.blk.below hq h3).kept hg ⟨by omega, fun e => h.ne q e rfl⟩
  have ho : WOut q (Value.slice V N c).ownBlock (Value.slice V4 N4 c4).ownBlock w w4 :=
    ⟨hg.os.trans h3.os, hg.tape.trans h3.tape, hg.output.trans h3.output, Nat.le_trans hs hg.size, fun k hk hp ha => (hg.block k (by omega) (fun e => ha e.symm)).trans (h3.block k hk), by
      rcases hnw with e | e
      · exact .inl e
      · exact .inr fun g hg4 => by have := e g hg4; omega⟩
  refine ⟨⟨hb4.set_ 0 _, ?_, hne4, h.lo⟩, ho.setP 0 _⟩
  exact own_woutL (a := none) (b := none) ((WOut.refl q none w4).setP 0 _) hown fun g hg4 => ⟨hne4 g hg4, fun e => by cases e⟩
set_option maxHeartbeats 2000000 in
theorem put_c (A : Option Addr) (n c : Nat) (P : List (Nat × Nat)) (hP : NsOk P) (hn : n ≤ 100) (w : World) (hA : PRow w A n P) (q base : Nat) (V : Option Addr) (N cv : Nat) (Y : List F) (hx : BxO w q base V N cv Y) (hN : N ≤ 1000000)
    (hap : ∀ b o, A = some ⟨b, o, none⟩ → b ≠ q ∧ (Value.slice V N cv).ownBlock ≠ some b) (hbase : base ≤ w.heap.size) :
    Calls Tryd.prog 35 #[.slice A n c, .pointer (some ⟨q, 0, none⟩)] w fun e w' => e = .returned (.tuple #[]) ∧ ∃ V' c', BxO w' q base V' (N + nsN P) c' (Y ++ nsB P) ∧ WOut q (Value.slice V N cv).ownBlock (Value.slice V' (N + nsN P) c').ownBlock w w' := by
  obtain ⟨i0, hi, hz0, hz1, hz2⟩ := info_parts info_u8
  have HP := Lib.hid hP
  have HA := Lib.hid hA
  have HX := Lib.hid hx
  have HAP := Lib.hid hap
  have HL := Lib.hid hA.len
  clear hP hA hx hap
  go_enter Tryd.func35, Tryd.ntmps35
  go_wp2
  go_loopw [7] (fun iv wr => ∃ (k c' : Nat) (V' : Option Addr), k ≤ n ∧ iv = .int .i64 k ∧ Hid (BxO wr q base V' (N + nsN (P.take k)) c' (Y ++ nsB (P.take k))) ∧ Hid (WOut q (Value.slice V N cv).ownBlock (Value.slice V' (N + nsN (P.take k)) c').ownBlock w wr)) (fun iv _ => n - (intOf iv).toNat)
  case atStart => exact ⟨0, cv, V, by omega, rfl, by rw [List.take_zero]; show Hid (BxO w q base V N cv (Y ++ [])); rw [List.append_nil]; exact HX, WOut.refl _ _ _⟩
  case round =>
    obtain ⟨k, c', V', hk, rfl, hX, hO⟩ := hrel
    by_cases hlt : k < n
    · have hkn : (k : Int) < n := by omega
      obtain ⟨b, off, rfl, hbl, q0, q1⟩ := (HA.out.wout hO.out HAP.out).cells k hlt
      have hkP : k < P.length := by rw [HL.out]; exact hlt
      have htk : P.take (k + 1) = P.take k ++ [P[k]] := List.take_succ_eq_append_getElem hkP
      have hok := HP.out P[k] (List.getElem_mem hkP)
      have e1 : gp P k = P[k] := by unfold gp; rw [List.getD_eq_getElem?_getD, List.getElem?_eq_getElem hkP]; rfl
      rw [e1] at q0 q1
      have hle : nsN (P.take k) ≤ 8 * k := by
        have := nsN_le (P := P.take k) (fun p hp => HP.out p (List.mem_of_mem_take hp))
        rw [List.length_take] at this
        omega
      have hcat : Hid (Y ++ nsB (P.take (k + 1)) = Y ++ nsB (P.take k) ++ putL P[k].1 P[k].2) := by
        unfold Hid
        rw [htk, nsB_append, List.append_assoc]
        show _ = Y ++ (nsB (P.take k) ++ putL P[k].1 P[k].2)
        show Y ++ (nsB (P.take k) ++ (putL _ _ ++ [])) = _
        rw [List.append_nil]
      have hcn : Hid (N + nsN (P.take (k + 1)) = N + nsN (P.take k) + P[k].2) := by
        unfold Hid
        rw [htk, nsN_append, Nat.add_assoc]
        rfl
      generalize P[k].1 = v at *
      generalize P[k].2 = s at *
      have hNN : N + nsN (P.take k) ≤ 1000800 := by omega
      generalize Y ++ nsB (P.take k) = Y1 at *
      generalize N + nsN (P.take k) = N1 at *
      have hs9 := hok.2
      have hs8 := held_le8 hs9
      have hv := hok.1
      clear htk e1 hok hkP hle
      have hba := (Below.refl wr.heap.size wr).alloc (Nat.le_refl _) (.cells #[.int .u64 (v : Nat), .int .i64 (s : Nat)] 76)
      have X5 := Lib.hid (hX.out.below hba)
      have K5 := Lib.hid (Blk.new wr 76 #[.int .u64 (v : Nat), .int .i64 (s : Nat)])
      have O5 := Lib.hid (hO.out.trans (WOut.ofBelowL (p := q) (a := (Value.slice V' N1 c').ownBlock) hba))
      have hq5 := hX.out.lt
      have hvg : ∀ g, (Value.slice V' N1 c').ownBlock = some g → g < wr.heap.size := fun g hg => (hX.out.own.lt g hg).2
      have d0 : (wr.alloc (.cells #[.int .u64 (v : Nat), .int .i64 (s : Nat)] 76)).cell? ⟨wr.heap.size, 0, none⟩ = some (.int .u64 (v : Nat)) := (K5.out.cell 0).trans rfl
      have d1 : (wr.alloc (.cells #[.int .u64 (v : Nat), .int .i64 (s : Nat)] 76)).cell? ⟨wr.heap.size, 1, none⟩ = some (.int .i64 (s : Nat)) := (K5.out.cell 1).trans rfl
      have x0 : (wr.alloc (.cells #[.int .u64 (v : Nat), .int .i64 (s : Nat)] 76)).cell? ⟨q, 0, none⟩ = some (.slice V' N1 c') := (X5.out.blk.cell 0).trans rfl
      have xf := X5.out.blk.frozen 0
      have hne5 := X5.out.ne
      have hl5 := K5.out.lt
      have hlx := X5.out.lt
      go_wp2_with fail
      generalize hw5 : wr.alloc (.cells #[.int .u64 (v : Nat), .int .i64 (s : Nat)] 76) = w5 at *
      generalize wr.heap.size = g at *
      go_region_law ((first
            | (refine step_append_row i0 hi hz0 hz1 hz2 (by rfl) (.tmp 11) (.tmp 16) (by rfl) base (.slice V' N1 c') N1 (cs Y1) (by simp [go_sem]) HO3 (some ⟨g3, 0, none⟩) s s (putL v s) (by simp [go_sem]) (Row.of_own hown3) (by omega) HS3 ?_
               intro v4 w4 hL
               obtain ⟨A4, c4, rfl, hown4, hg4, hnw4⟩ := hL
               have b4 := (((show Blk w5.drew q 29 #[.slice V' N1 c'] from X5.out.blk).below (by exact hlx) hb3).kept hg4 ⟨by have := hb3.size; simp at this; omega, fun e => hne5 q e rfl⟩)
               have f4 := b4.frozen 0
               have z0 : w4.cell? ⟨q, 0, none⟩ = some (.slice V' N1 c') := (b4.cell 0).trans rfl)
            | (go_simp
               refine (Put_c v hv (s : Int) _).mono ?_
               rintro e w3 ⟨g3, rfl, hown3, hb3⟩
               dsimp only
               rw [hs8] at hown3
               rw [hs8]
               have HS3 : base ≤ w3.heap.size := by have h1 := hb3.size; have h2 := X5.out.lo; simp at h1; omega
               have y0 := (hb3.cell (p := ⟨q, 0, none⟩) (by exact hlx)).trans (show w5.drew.cell? ⟨q, 0, none⟩ = _ from x0)
               have HO3 : w3.ownsRow base 5 1 (.slice V' N1 c') N1 (cs Y1) := own_below (show w5.drew.ownsRow base 5 1 (.slice V' N1 c') N1 (cs Y1) from X5.out.own) hb3)))
      all_goals
        rw [← cs_append, ← hcat.out, ← hcn.out] at hown4
        rw [← hcn.out] at hnw4 ⊢
        obtain ⟨x9, o9⟩ := BxO.more (w := w5.drew) ⟨X5.out.blk, X5.out.own, X5.out.ne, X5.out.lo⟩ hb3 hown4 hg4 hnw4
        have X9 := Lib.hid x9
        have O9 := Lib.hid (O5.out.drew.trans o9)
        clear x9 o9 hown4 hg4 hnw4 hown3 hb3 HO3 b4 f4 z0 y0
        go_wp2
        go_roundw
        case rel => exact ⟨k + 1, c4, A4, by omega, by go_num, X9, O9⟩
        case measure => simp [intOf]; omega
    · have hkn : ¬ (k : Int) < n := by omega
      obtain rfl : k = n := by omega
      have ht : P.take k = P := by rw [← HL.out, List.take_length]
      rw [ht] at hX hO
      go_wp2
      go_end0
      exact ⟨rfl, V', c', hX.out, hO.out⟩
end Go.Proofs.YtcclhcbjolelcaaDoor
