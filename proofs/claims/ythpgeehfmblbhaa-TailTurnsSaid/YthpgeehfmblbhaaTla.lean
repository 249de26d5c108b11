/-
  TAILS: the closure that lays numbers of one size behind the bytes in a box. No conditions.
-/
import Derived.Test.YthpgeehfmblbhaaRec
namespace Go.Proofs.Ythpgeehfmblbhaa
open Go.RowKit
set_option maxRecDepth 100000
set_option linter.unusedVariables false

theorem IRow.woutT {w w' : World} {A : Option Addr} {n p : Nat} {k : IntKind} {l : List Int} {a b : Option Nat} (h : IRow w A n k l) (ho : WOut p a b w w') (hA : ∀ b o, A = some ⟨b, o, none⟩ → b ≠ p ∧ a ≠ some b) : IRow w' A n k l :=
  ⟨h.len, h.max, fun hn => by
    obtain ⟨b, off, e, hl, hc⟩ := h.cells hn
    obtain ⟨h1, h2⟩ := hA b off e
    have hk := ho.block b hl h1 h2
    exact ⟨b, off, e, by have := ho.size; omega, fun i hi => (World.cell?_of_block (a := ⟨b, off + i, none⟩) hk).trans (hc i hi)⟩, h.wf⟩
/-- numbers of one size -/
def szP (s : Nat) (zs : List Nat) : List (Nat × Nat) := zs.map fun z => (z, s)
def gzN (zs : List Nat) (i : Nat) : Nat := zs.getD i 0
theorem szP_take (s : Nat) (zs : List Nat) (k : Nat) : (szP s zs).take k = szP s (zs.take k) := by
  unfold szP
  rw [List.map_take]
theorem szP_N (s : Nat) (zs : List Nat) : nsN (szP s zs) = zs.length * s := by
  induction zs with
  | nil => simp [szP, nsN]
  | cons a r ih =>
    show s + nsN (szP s r) = (r.length + 1) * s
    rw [ih, Nat.add_mul, Nat.one_mul, Nat.add_comm]
set_option maxHeartbeats 2000000 in
theorem tput_c (s : Nat) (hs : s ≤ 8) (A : Option Addr) (n c : Nat) (zs : List Nat) (hz : ∀ z ∈ zs, z < two64) (hn : n ≤ 100) (w : World) (hA : IRow w A n .u64 (zs.map fun (z : Nat) => (z : Int))) (q base : Nat) (V : Option Addr) (N cv : Nat) (Y : List F) (hx : BxO w q base V N cv Y) (hN : N ≤ 1000000)
    (hap : ∀ b o, A = some ⟨b, o, none⟩ → b ≠ q ∧ (Value.slice V N cv).ownBlock ≠ some b) (hbase : base ≤ w.heap.size) :
    Calls Try.prog 31 #[.int .i64 (s : Int), .slice A n c, .pointer (some ⟨q, 0, none⟩)] w fun e w' => e = .returned (.tuple #[]) ∧ ∃ V' c', BxO w' q base V' (N + nsN (szP s zs)) c' (Y ++ nsB (szP s zs)) ∧ WOut q (Value.slice V N cv).ownBlock (Value.slice V' (N + nsN (szP s zs)) c').ownBlock w w' := by
  obtain ⟨i0, hi, hz0, hz1, hz2⟩ := info_parts info_u8
  have hL : zs.length = n := by have := hA.len; rwa [List.length_map] at this
  have HP := Lib.hid hz
  have HA := Lib.hid hA
  have HX := Lib.hid hx
  have HAP := Lib.hid hap
  have HL := Lib.hid hL
  have hs8 := held_le8 hs
  clear hz hA hx hap hL
  go_enter Try.func31, Try.ntmps31
  go_wp2
  go_loopw [9] (fun iv wr => ∃ (k c' : Nat) (V' : Option Addr), k ≤ n ∧ iv = .int .i64 k ∧ Hid (BxO wr q base V' (N + nsN (szP s (zs.take k))) c' (Y ++ nsB (szP s (zs.take k)))) ∧ Hid (WOut q (Value.slice V N cv).ownBlock (Value.slice V' (N + nsN (szP s (zs.take k))) c').ownBlock w wr)) (fun iv _ => n - (intOf iv).toNat)
  case atStart => exact ⟨0, cv, V, by omega, rfl, by rw [List.take_zero]; show Hid (BxO w q base V N cv (Y ++ [])); rw [List.append_nil]; exact HX, WOut.refl _ _ _⟩
  case round =>
    obtain ⟨k, c', V', hk, rfl, hX, hO⟩ := hrel
    by_cases hlt : k < n
    · have hkn : (k : Int) < n := by omega
      obtain ⟨b, off, rfl, hbl, q0⟩ := (HA.out.woutT hO.out HAP.out).at_ hlt
      have hkP : k < zs.length := by rw [HL.out]; exact hlt
      have htk : zs.take (k + 1) = zs.take k ++ [zs[k]] := List.take_succ_eq_append_getElem hkP
      have hok := HP.out zs[k] (List.getElem_mem hkP)
      have e1 : gi (zs.map fun (z : Nat) => (z : Int)) k = (zs[k] : Int) := by simp [gi, hkP]
      rw [e1] at q0
      have hle : nsN (szP s (zs.take k)) ≤ 800 := by
        rw [szP_N, List.length_take]
        have : min k zs.length ≤ 100 := by omega
        exact Nat.mul_le_mul this hs
      have hcat : Hid (Y ++ nsB (szP s (zs.take (k + 1))) = Y ++ nsB (szP s (zs.take k)) ++ putL zs[k] s) := by
        unfold Hid
        rw [htk]
        unfold szP
        rw [List.map_append, nsB_append, List.append_assoc]
        show Y ++ (nsB _ ++ (putL _ _ ++ [])) = _
        rw [List.append_nil]
      have hcn : Hid (N + nsN (szP s (zs.take (k + 1))) = N + nsN (szP s (zs.take k)) + s) := by
        unfold Hid
        rw [htk]
        unfold szP
        rw [List.map_append, nsN_append, Nat.add_assoc]
        rfl
      generalize zs[k] = v at *
      have hNN : N + nsN (szP s (zs.take k)) ≤ 1000800 := by omega
      generalize Y ++ nsB (szP s (zs.take k)) = Y1 at *
      generalize N + nsN (szP s (zs.take k)) = N1 at *
      clear htk e1 hkP hle
      have hlx := hX.out.lt
      have x0 : wr.cell? ⟨q, 0, none⟩ = some (.slice V' N1 c') := (hX.out.blk.cell 0).trans rfl
      have xf := hX.out.blk.frozen 0
      have hne5 := hX.out.ne
      go_wp2_with fail
      go_region_law ((first
            | (refine step_append_row i0 hi hz0 hz1 hz2 (by rfl) (.tmp 13) (.tmp 16) (by rfl) base (.slice V' N1 c') N1 (cs Y1) (by simp [go_sem]) HO3 (some ⟨g3, 0, none⟩) s s (putL v s) (by simp [go_sem]) (Row.of_own hown3) (by omega) HS3 ?_
               intro v4 w4 hL
               obtain ⟨A4, c4, rfl, hown4, hg4, hnw4⟩ := hL
               have b4 := (((show Blk wr.drew q 29 #[.slice V' N1 c'] from hX.out.blk).below (by exact hlx) hb3).kept hg4 ⟨by have := hb3.size; simp at this; omega, fun e => hne5 q e rfl⟩)
               have f4 := b4.frozen 0
               have z0 : w4.cell? ⟨q, 0, none⟩ = some (.slice V' N1 c') := (b4.cell 0).trans rfl)
            | (go_simp
               refine (Put_c v hok (s : Int) _).mono ?_
               rintro e w3 ⟨g3, rfl, hown3, hb3⟩
               dsimp only
               rw [hs8] at hown3
               rw [hs8]
               have HS3 : base ≤ w3.heap.size := by have h1 := hb3.size; have h2 := hX.out.lo; simp at h1; omega
               have y0 := (hb3.cell (p := ⟨q, 0, none⟩) (by exact hlx)).trans (show wr.drew.cell? ⟨q, 0, none⟩ = _ from x0)
               have HO3 : w3.ownsRow base 5 1 (.slice V' N1 c') N1 (cs Y1) := own_below (show wr.drew.ownsRow base 5 1 (.slice V' N1 c') N1 (cs Y1) from hX.out.own) hb3)))
      all_goals
        rw [← cs_append, ← hcat.out, ← hcn.out] at hown4
        rw [← hcn.out] at hnw4 ⊢
        obtain ⟨x9, o9⟩ := BxO.more (w := wr.drew) ⟨hX.out.blk, hX.out.own, hX.out.ne, hX.out.lo⟩ hb3 hown4 hg4 hnw4
        have X9 := Lib.hid x9
        have O9 := Lib.hid (hO.out.drew.trans o9)
        clear x9 o9 hown4 hg4 hnw4 hown3 hb3 HO3 b4 f4 z0 y0
        go_wp2
        go_roundw
        case rel => exact ⟨k + 1, c4, A4, by omega, by go_num, X9, O9⟩
        case measure => simp [intOf]; omega
    · have hkn : ¬ (k : Int) < n := by omega
      obtain rfl : k = n := by omega
      have ht : zs.take k = zs := by rw [← HL.out, List.take_length]
      rw [ht] at hX hO
      go_wp2
      go_end0
      exact ⟨rfl, V', c', hX.out, hO.out⟩
end Go.Proofs.Ythpgeehfmblbhaa
