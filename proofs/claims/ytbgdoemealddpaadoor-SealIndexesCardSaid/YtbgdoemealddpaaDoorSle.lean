/-
  SEALS: numbers of one size are laid behind bytes that a call owns. No conditions.
-/
import Derived.Test.YtbgdoemealddpaaDoorSld
namespace Go.Proofs.YtbgdoemealddpaaDoor
open Go.RowKit
set_option maxRecDepth 100000
set_option linter.unusedVariables false

theorem IRow.woutS {w w' : World} {A : Option Addr} {n p : Nat} {k : IntKind} {l : List Int} {a b : Option Nat} (h : IRow w A n k l) (ho : WOut p a b w w') (hA : 0 < n → ∀ b o, A = some ⟨b, o, none⟩ → b ≠ p ∧ a ≠ some b) : IRow w' A n k l :=
  ⟨h.len, h.max, fun hn => by
    obtain ⟨b, off, e, hl, hc⟩ := h.cells hn
    obtain ⟨h1, h2⟩ := hA hn b off e
    have hk := ho.block b hl h1 h2
    exact ⟨b, off, e, by have := ho.size; omega, fun i hi => (World.cell?_of_block (a := ⟨b, off + i, none⟩) hk).trans (hc i hi)⟩, h.wf⟩
/-- numbers of one size -/
def szP (s : Nat) (zs : List Nat) : List (Nat × Nat) := zs.map fun z => (z, s)
theorem szP_take (s : Nat) (zs : List Nat) (k : Nat) : (szP s zs).take k = szP s (zs.take k) := by
  unfold szP
  rw [List.map_take]
theorem szP_N (s : Nat) (zs : List Nat) : nsN (szP s zs) = zs.length * s := by
  induction zs with
  | nil => simp [szP, nsN]
  | cons a r ih =>
    show s + nsN (szP s r) = (r.length + 1) * s
    rw [ih, Nat.add_mul, Nat.one_mul, Nat.add_comm]
/-- more bytes -/
theorem own_more {w w3 w4 : World} {V V4 : Option Addr} {N N4 c c4 p : Nat} (h3 : Below w.heap.size w w3)
    (hg : w3.grownBy w4 (Value.slice V N c).ownBlock) (hnw : (Value.slice V4 N4 c4).ownBlock = (Value.slice V N c).ownBlock ∨ ∀ g, (Value.slice V4 N4 c4).ownBlock = some g → w3.heap.size ≤ g) :
    WOut p (Value.slice V N c).ownBlock (Value.slice V4 N4 c4).ownBlock w w4 :=
  ⟨hg.os.trans h3.os, hg.tape.trans h3.tape, hg.output.trans h3.output, Nat.le_trans h3.size hg.size, fun k hk hp ha => (hg.block k (by have := h3.size; omega) (fun e => ha e.symm)).trans (h3.block k hk), by
      rcases hnw with e | e
      · exact .inl e
      · exact .inr fun g hg4 => by have := e g hg4; have := h3.size; omega⟩
set_option maxHeartbeats 2000000 in
theorem layI_c (s : Nat) (hs : s ≤ 8) (A : Option Addr) (n c : Nat) (zs : List Nat) (hz : ∀ z ∈ zs, z < 9223372036854775808) (hn : n ≤ 1000) (w : World) (hA : IRow w A n .i64 (zs.map fun (z : Nat) => (z : Int))) (base : Nat) (V : Option Addr) (N cv : Nat) (Y : List F) (hx : w.ownsRow base 5 1 (.slice V N cv) N (cs Y)) (hN : N ≤ 1000000)
    (hap : 0 < n → ∀ b o, A = some ⟨b, o, none⟩ → (Value.slice V N cv).ownBlock ≠ some b) (hbase : base ≤ w.heap.size) :
    Calls Tryd.prog 25 #[.slice V N cv, .int .i64 (s : Int), .slice A n c] w fun e w' => ∃ V' c', e = .returned (.slice V' (N + nsN (szP s zs)) c') ∧ w'.ownsRow base 5 1 (.slice V' (N + nsN (szP s zs)) c') (N + nsN (szP s zs)) (cs (Y ++ nsB (szP s zs))) ∧ WOut w.heap.size (Value.slice V N cv).ownBlock (Value.slice V' (N + nsN (szP s zs)) c').ownBlock w w' := by
  obtain ⟨i0, hi, hz0, hz1, hz2⟩ := info_parts info_u8
  have hL : zs.length = n := by have := hA.len; rwa [List.length_map] at this
  have HP := Lib.hid hz
  have HA := Lib.hid hA
  have HX := Lib.hid hx
  have HAP := Lib.hid (show 0 < n → ∀ b o, A = some ⟨b, o, none⟩ → b ≠ w.heap.size ∧ (Value.slice V N cv).ownBlock ≠ some b from fun h0 b o e => ⟨by
      obtain ⟨b', o', e', hb', _⟩ := hA.cells h0
      rw [e'] at e
      cases e
      omega, hap h0 b o e⟩)
  have HL := Lib.hid hL
  have hs8 := held_le8 hs
  clear hz hA hx hap hL
  go_enter Tryd.func25, Tryd.ntmps25
  go_wp2
  go_loopw [0, 11] (fun bv iv wr => ∃ (k c' : Nat) (V' : Option Addr), k ≤ n ∧ iv = .int .i64 k ∧ bv = .slice V' (N + nsN (szP s (zs.take k))) c' ∧ Hid (wr.ownsRow base 5 1 (.slice V' (N + nsN (szP s (zs.take k))) c') (N + nsN (szP s (zs.take k))) (cs (Y ++ nsB (szP s (zs.take k))))) ∧ Hid (WOut w.heap.size (Value.slice V N cv).ownBlock (Value.slice V' (N + nsN (szP s (zs.take k))) c').ownBlock w wr)) (fun _ iv _ => n - (intOf iv).toNat)
  case atStart => exact ⟨0, cv, V, by omega, rfl, by rw [List.take_zero]; rfl, by rw [List.take_zero]; show Hid (w.ownsRow base _ 1 (.slice V N cv) N (cs (Y ++ []))); rw [List.append_nil]; exact HX, WOut.refl _ _ _⟩
  case round =>
    obtain ⟨k, c', V', hk, rfl, rfl, hX, hO⟩ := hrel
    by_cases hlt : k < n
    · have hkn : (k : Int) < n := by omega
      obtain ⟨b, off, rfl, hbl, q0⟩ := (HA.out.woutS hO.out HAP.out).at_ hlt
      have hkP : k < zs.length := by rw [HL.out]; exact hlt
      have htk : zs.take (k + 1) = zs.take k ++ [zs[k]] := List.take_succ_eq_append_getElem hkP
      have hok := HP.out zs[k] (List.getElem_mem hkP)
      have e1 : gi (zs.map fun (z : Nat) => (z : Int)) k = (zs[k] : Int) := by simp [gi, hkP]
      rw [e1] at q0
      have hle : nsN (szP s (zs.take k)) ≤ 8000 := by
        rw [szP_N, List.length_take]
        have : min k zs.length ≤ 1000 := by omega
        exact Nat.mul_le_mul this hs
      have hcat : Hid (Y ++ nsB (szP s (zs.take (k + 1))) = Y ++ nsB (szP s (zs.take k)) ++ putL zs[k] s) := by
        unfold Hid
        rw [htk]
        unfold szP
        rw [List.map_append, nsB_append, List.append_assoc]
        show Y ++ (nsB _ ++ (putL _ _ ++ [])) = _
        rw [List.append_nil]
      have hcn : Hid (N + nsN (szP s (zs.take (k + 1))) = N + nsN (szP s (zs.take k)) + s) := by
        unfold Hid
        rw [htk]
        unfold szP
        rw [List.map_append, nsN_append, Nat.add_assoc]
        rfl
      generalize zs[k] = v at *
      have hNN : N + nsN (szP s (zs.take k)) ≤ 1008000 := by omega
      generalize Y ++ nsB (szP s (zs.take k)) = Y1 at *
      generalize N + nsN (szP s (zs.take k)) = N1 at *
      clear htk e1 hkP hle
      have u1 : IntKind.u64.wrap (v : Int) = (v : Int) := wrap_u64_lt (by unfold two64; omega)
      have HPut := Lib.hid (fun W => Put_c v (by unfold two64; omega) (s : Int) W)
      have hOs := hO.out.size
      go_wp2_with (first
        | (go_at_call 47; refine (HPut.out _).mono ?_; rintro e w3 ⟨g3, rfl, hown3, hb3⟩; rw [hs8] at hown3; rw [hs8]; have HO3 := own_below hX.out hb3; have HS3 : base ≤ w3.heap.size := by have := hb3.size; omega)
        | (at_builtin; refine wpList_append_row i0 hi hz0 hz1 hz2 rfl (.tmp 15) (.tmp 19) rfl base (.slice V' N1 c') N1 (cs Y1) rfl HO3 (some ⟨g3, 0, none⟩) s s (putL v s) rfl (Row.of_own hown3) (by omega) HS3 ?_; intro v4 w4 hL4; obtain ⟨A4, c4, rfl, hown4, hg4, hnw4⟩ := hL4; have hO4 := hO.out.trans (own_more hb3 hg4 hnw4); rw [← cs_append, ← hcat.out, ← hcn.out] at hown4; rw [← hcn.out] at hO4 ⊢; have X4 := Lib.hid hown4; have O4 := Lib.hid hO4; clear hown4 hO4 hg4 hnw4 hb3 HO3 hown3))
      go_roundw
      case rel => exact ⟨k + 1, c4, A4, by omega, by go_num, rfl, X4, O4⟩
      case measure => simp [intOf]; omega
    · have hkn : ¬ (k : Int) < n := by omega
      obtain rfl : k = n := by omega
      have ht : zs.take k = zs := by rw [← HL.out, List.take_length]
      rw [ht] at hX hO
      go_wp2
      go_ret
      exact ⟨V', c', rfl, hX.out, hO.out⟩
set_option maxHeartbeats 2000000 in
theorem layW_c (s : Nat) (hs : s ≤ 8) (A : Option Addr) (n c : Nat) (zs : List Nat) (hz : ∀ z ∈ zs, z < 4294967296) (hn : n ≤ 1000) (w : World) (hA : IRow w A n .u32 (zs.map fun (z : Nat) => (z : Int))) (base : Nat) (V : Option Addr) (N cv : Nat) (Y : List F) (hx : w.ownsRow base 5 1 (.slice V N cv) N (cs Y)) (hN : N ≤ 1000000)
    (hap : 0 < n → ∀ b o, A = some ⟨b, o, none⟩ → (Value.slice V N cv).ownBlock ≠ some b) (hbase : base ≤ w.heap.size) :
    Calls Tryd.prog 26 #[.slice V N cv, .int .i64 (s : Int), .slice A n c] w fun e w' => ∃ V' c', e = .returned (.slice V' (N + nsN (szP s zs)) c') ∧ w'.ownsRow base 5 1 (.slice V' (N + nsN (szP s zs)) c') (N + nsN (szP s zs)) (cs (Y ++ nsB (szP s zs))) ∧ WOut w.heap.size (Value.slice V N cv).ownBlock (Value.slice V' (N + nsN (szP s zs)) c').ownBlock w w' := by
  obtain ⟨i0, hi, hz0, hz1, hz2⟩ := info_parts info_u8
  have hL : zs.length = n := by have := hA.len; rwa [List.length_map] at this
  have HP := Lib.hid hz
  have HA := Lib.hid hA
  have HX := Lib.hid hx
  have HAP := Lib.hid (show 0 < n → ∀ b o, A = some ⟨b, o, none⟩ → b ≠ w.heap.size ∧ (Value.slice V N cv).ownBlock ≠ some b from fun h0 b o e => ⟨by
      obtain ⟨b', o', e', hb', _⟩ := hA.cells h0
      rw [e'] at e
      cases e
      omega, hap h0 b o e⟩)
  have HL := Lib.hid hL
  have hs8 := held_le8 hs
  clear hz hA hx hap hL
  go_enter Tryd.func26, Tryd.ntmps26
  go_wp2
  go_loopw [0, 11] (fun bv iv wr => ∃ (k c' : Nat) (V' : Option Addr), k ≤ n ∧ iv = .int .i64 k ∧ bv = .slice V' (N + nsN (szP s (zs.take k))) c' ∧ Hid (wr.ownsRow base 5 1 (.slice V' (N + nsN (szP s (zs.take k))) c') (N + nsN (szP s (zs.take k))) (cs (Y ++ nsB (szP s (zs.take k))))) ∧ Hid (WOut w.heap.size (Value.slice V N cv).ownBlock (Value.slice V' (N + nsN (szP s (zs.take k))) c').ownBlock w wr)) (fun _ iv _ => n - (intOf iv).toNat)
  case atStart => exact ⟨0, cv, V, by omega, rfl, by rw [List.take_zero]; rfl, by rw [List.take_zero]; show Hid (w.ownsRow base _ 1 (.slice V N cv) N (cs (Y ++ []))); rw [List.append_nil]; exact HX, WOut.refl _ _ _⟩
  case round =>
    obtain ⟨k, c', V', hk, rfl, rfl, hX, hO⟩ := hrel
    by_cases hlt : k < n
    · have hkn : (k : Int) < n := by omega
      obtain ⟨b, off, rfl, hbl, q0⟩ := (HA.out.woutS hO.out HAP.out).at_ hlt
      have hkP : k < zs.length := by rw [HL.out]; exact hlt
      have htk : zs.take (k + 1) = zs.take k ++ [zs[k]] := List.take_succ_eq_append_getElem hkP
      have hok := HP.out zs[k] (List.getElem_mem hkP)
      have e1 : gi (zs.map fun (z : Nat) => (z : Int)) k = (zs[k] : Int) := by simp [gi, hkP]
      rw [e1] at q0
      have hle : nsN (szP s (zs.take k)) ≤ 8000 := by
        rw [szP_N, List.length_take]
        have : min k zs.length ≤ 1000 := by omega
        exact Nat.mul_le_mul this hs
      have hcat : Hid (Y ++ nsB (szP s (zs.take (k + 1))) = Y ++ nsB (szP s (zs.take k)) ++ putL zs[k] s) := by
        unfold Hid
        rw [htk]
        unfold szP
        rw [List.map_append, nsB_append, List.append_assoc]
        show Y ++ (nsB _ ++ (putL _ _ ++ [])) = _
        rw [List.append_nil]
      have hcn : Hid (N + nsN (szP s (zs.take (k + 1))) = N + nsN (szP s (zs.take k)) + s) := by
        unfold Hid
        rw [htk]
        unfold szP
        rw [List.map_append, nsN_append, Nat.add_assoc]
        rfl
      generalize zs[k] = v at *
      have hNN : N + nsN (szP s (zs.take k)) ≤ 1008000 := by omega
      generalize Y ++ nsB (szP s (zs.take k)) = Y1 at *
      generalize N + nsN (szP s (zs.take k)) = N1 at *
      clear htk e1 hkP hle
      have u1 : IntKind.u64.wrap (v : Int) = (v : Int) := wrap_u64_lt (by unfold two64; omega)
      have HPut := Lib.hid (fun W => Put_c v (by unfold two64; omega) (s : Int) W)
      have hOs := hO.out.size
      go_wp2_with (first
        | (go_at_call 47; refine (HPut.out _).mono ?_; rintro e w3 ⟨g3, rfl, hown3, hb3⟩; rw [hs8] at hown3; rw [hs8]; have HO3 := own_below hX.out hb3; have HS3 : base ≤ w3.heap.size := by have := hb3.size; omega)
        | (at_builtin; refine wpList_append_row i0 hi hz0 hz1 hz2 rfl (.tmp 15) (.tmp 19) rfl base (.slice V' N1 c') N1 (cs Y1) rfl HO3 (some ⟨g3, 0, none⟩) s s (putL v s) rfl (Row.of_own hown3) (by omega) HS3 ?_; intro v4 w4 hL4; obtain ⟨A4, c4, rfl, hown4, hg4, hnw4⟩ := hL4; have hO4 := hO.out.trans (own_more hb3 hg4 hnw4); rw [← cs_append, ← hcat.out, ← hcn.out] at hown4; rw [← hcn.out] at hO4 ⊢; have X4 := Lib.hid hown4; have O4 := Lib.hid hO4; clear hown4 hO4 hg4 hnw4 hb3 HO3 hown3))
      go_roundw
      case rel => exact ⟨k + 1, c4, A4, by omega, by go_num, rfl, X4, O4⟩
      case measure => simp [intOf]; omega
    · have hkn : ¬ (k : Int) < n := by omega
      obtain rfl : k = n := by omega
      have ht : zs.take k = zs := by rw [← HL.out, List.take_length]
      rw [ht] at hX hO
      go_wp2
      go_ret
      exact ⟨V', c', rfl, hX.out, hO.out⟩

end Go.Proofs.YtbgdoemealddpaaDoor
