/-
  THE CONTRACTS OF bits' WRITER. The writer is a block of its own; what it holds are the bits that were put.
-/
import Derived.Test.YtanhgjaokgnlhaaBit
import Derived.Test.YtanhgjaokgnlhaaNum
import Derived.Test.YtanhgjaokgnlhaaLit
import Derived.StillTailTactics
import Derived.RegionTactic
import Derived.Deep.RegionLaw
namespace Go.Proofs.Ytanhgjaokgnlhaa
open Go.RowKit
set_option maxRecDepth 100000
set_option linter.unusedVariables false

/-- what stays as it was but the writer and its bytes' block -/
structure WOut (p : Nat) (a a' : Option Nat) (w w' : World) : Prop where
  os : w'.os = w.os
  tape : w'.tape = w.tape
  output : w'.output = w.output
  size : w.heap.size ≤ w'.heap.size
  block : ∀ k, k < w.heap.size → k ≠ p → a ≠ some k → w'.heap[k]? = w.heap[k]?
  nw : a' = a ∨ ∀ g, a' = some g → w.heap.size ≤ g
namespace WOut
variable {p : Nat} {a b c : Option Nat} {w w' w'' : World}
theorem refl (p : Nat) (a : Option Nat) (w : World) : WOut p a a w w := ⟨rfl, rfl, rfl, Nat.le_refl _, fun _ _ _ _ => rfl, .inl rfl⟩
theorem trans (h : WOut p a b w w') (k : WOut p b c w' w'') : WOut p a c w w'' :=
  ⟨k.os.trans h.os, k.tape.trans h.tape, k.output.trans h.output, Nat.le_trans h.size k.size, fun i hi hp ha => (k.block i (Nat.lt_of_lt_of_le hi h.size) hp (fun e => by
      rcases h.nw with h1 | h1
      · rw [h1] at e; exact ha e
      · have := h1 i e; omega)).trans (h.block i hi hp ha), by
    rcases k.nw with h1 | h1
    · rw [h1]; exact h.nw
    · exact .inr fun g hg => Nat.le_trans h.size (h1 g hg)⟩
theorem drewN (h : WOut p a b w w') (q : Nat) : WOut p a b w (w'.drewN q) := ⟨h.os, h.tape, h.output, h.size, h.block, h.nw⟩
theorem setP (h : WOut p a b w w') (i : Nat) (v : Value) : WOut p a b w (w'.setCell ⟨p, i, none⟩ v) :=
  ⟨h.os, h.tape, h.output, by simpa [World.setCell] using h.size, fun k hk hp ha => (Below.heap_setCell _ _ _ _ hp).trans (h.block k hk hp ha), h.nw⟩
theorem below {B : Nat} (h : WOut p a b w w') (hB : B ≤ p) (hs : B ≤ w.heap.size) (ha : ∀ g, a = some g → B ≤ g) : Below B w w' :=
  ⟨h.os, h.tape, h.output, h.size, fun k hk => h.block k (by omega) (by omega) (fun e => by have := ha k e; omega)⟩
end WOut
/-- a writer: its bytes, and what was put -/
structure Wr (w : World) (p : Nat) (A : Option Addr) (len cap n : Nat) (X : List Bool) : Prop where
  blk : Blk w p 48 #[.slice A len cap, .int .i64 n]
  own : w.ownsRow (p + 1) 5 1 (.slice A len cap) len (cs (pack X))
  hl : Hid (len = (X.length + 7) / 8)
  hn : Hid (n = X.length)
  few : 8 * len ≤ 1000008
theorem Wr.lt {w : World} {p : Nat} {A : Option Addr} {len cap n : Nat} {X : List Bool} (h : Wr w p A len cap n X) : p < w.heap.size := (Array.getElem?_eq_some_iff.1 h.blk).1
theorem Wr.at8 {w : World} {p : Nat} {A : Option Addr} {len cap n : Nat} {X : List Bool} (h : Wr w p A len cap n X) : n ≤ 8 * len ∧ 8 * len ≤ n + 7 := by
  have h1 := h.hl.out
  have h2 := h.hn.out
  omega
theorem Wr.drewN {w : World} {p : Nat} {A : Option Addr} {len cap n : Nat} {X : List Bool} (h : Wr w p A len cap n X) (q : Nat) : Wr (w.drewN q) p A len cap n X := ⟨h.blk, h.own, h.hl, h.hn, h.few⟩
theorem Wr.below {w w' : World} {p : Nat} {A : Option Addr} {len cap n : Nat} {X : List Bool} (h : Wr w p A len cap n X) (hb : Below w.heap.size w w') : Wr w' p A len cap n X := ⟨h.blk.below h.lt hb, own_below h.own hb, h.hl, h.hn, h.few⟩
theorem own_set_other {w : World} {base n : Nat} {e : TypeId} {v : Value} {xs : List Value} (h : w.ownsRow base e 1 v n xs) {a : Addr} (ha : a.block < base) (u : Value) : (w.setCell a u).ownsRow base e 1 v n xs := by
  refine ⟨h.1, ?_⟩
  rcases h.2 with hn | ⟨g, cap, cur, rfl, hbg, hg, rest⟩
  · exact .inl hn
  · exact .inr ⟨g, cap, cur, rfl, hbg, (Below.heap_setCell w a u g (by omega)).trans hg, rest⟩
theorem own_addr {w : World} {base n c : Nat} {e : TypeId} {A : Option Addr} {xs : List Value} (h : w.ownsRow base e 1 (.slice A n c) n xs) (hn : 0 < n) : ∃ g, A = some ⟨g, 0, none⟩ ∧ base ≤ g ∧ g < w.heap.size := by
  rcases h.2 with ⟨hv, h0⟩ | ⟨g, cap, cur, hv, hb, hg, _⟩
  · omega
  · injection hv with hv
    exact ⟨g, hv, hb, (Array.getElem?_eq_some_iff.1 hg).1⟩
theorem heldB_c (s : Int) (w : World) : Calls Try.prog 29 #[.int .i64 s] w fun e w' => e = .returned (.int .i64 (heldN s 32)) ∧ w = w' := by
  go_enter Try.func29, Try.ntmps29
  go_wp2
  all_goals (go_ret; exact ⟨ret_i64 (by unfold heldN; omega), rfl⟩)
theorem odd32 (v : Nat) (hv : v < 4294967296) : bits BinOp.and IntKind.u32 (v : Int) 1 = ((v % 2 : Nat) : Int) := by
  rw [show (1 : Int) = ((1 : Nat) : Int) from rfl, u32_and_nat _ _ hv (by omega), Nat.and_one_is_mod]
section
variable {w : World} {p : Nat} {A : Option Addr} {len cap n : Nat} {X : List Bool}
theorem LenB_c (h : Wr w p A len cap n X) : Calls Try.prog 20 #[.pointer (some ⟨p, 0, none⟩)] w fun e w' => e = .returned (.int .i64 n) ∧ w = w' := by
  have c1 := h.blk.cell 1
  simp at c1
  go_enter Try.func20, Try.ntmps20
  go_wp2
  go_ret
  exact ⟨rfl, rfl⟩
theorem DoneB_c (h : Wr w p A len cap n X) : Calls Try.prog 19 #[.pointer (some ⟨p, 0, none⟩)] w fun e w' => ∃ A' c', e = .returned (.slice A' len c') ∧ w'.ownsRow w.heap.size 5 1 (.slice A' len c') len (cs (pack X)) ∧ Below w.heap.size w w' := by
  have c0 := h.blk.cell 0
  simp at c0
  have hf := h.few
  have h8 := h.at8
  go_enter Try.func19, Try.ntmps19
  go_wp2_with (go_at_call 26; refine (Clone_c A _ _ _ _ (own_in h.own).row (by omega)).mono ?_; rintro e w1 ⟨A', c', rfl, hown, hbel⟩)
  go_ret
  exact ⟨A', c', rfl, hown, hbel⟩
end
/-- the bit is put into the last byte -/
theorem bit_or (a r : Nat) (v : Nat) (ha : a < 2 ^ r) (hr : r < 8) (hv : v < 4294967296) : bits BinOp.or IntKind.u8 (a : Int) (IntKind.u8.wrap (IntKind.u8.wrap ((v : Int) % 2) * 2 ^ r)) = ((a + (if v.testBit 0 then 2 ^ r else 0) : Nat) : Int) := by
  have hp : 2 ^ r ≤ 2 ^ 7 := Nat.pow_le_pow_right (by decide) (by omega)
  have e7 : (2 : Nat) ^ 7 = 128 := rfl
  have h2 : v % 2 * 2 ^ r = if v.testBit 0 then 2 ^ r else 0 := by
    rw [Nat.testBit_zero]
    rcases Nat.mod_two_eq_zero_or_one v with h | h <;> simp [h]
  have h3 : ((v % 2 : Nat) : Int) * 2 ^ r = ((v % 2 * 2 ^ r : Nat) : Int) := by simp
  have h4 : v % 2 * 2 ^ r ≤ 2 ^ r := by rw [h2]; split <;> omega
  have h5 : IntKind.u8.wrap ((v : Int) % 2) = ((v % 2 : Nat) : Int) := by rw [IntKind.wrap_u8']; omega
  rw [h5, h3, IntKind.wrap_u8', show ((v % 2 * 2 ^ r : Nat) : Int) % 256 = ((v % 2 * 2 ^ r : Nat) : Int) by omega, u8_or_nat _ _ (by omega) (by omega), h2, or_bit a r _ ha]
/-- a writer with room for a bit more in its last byte -/
structure Wm (w : World) (p g k cap n r : Nat) (X : List Bool) : Prop where
  blk : Blk w p 48 #[.slice (some ⟨g, 0, none⟩) (k + 1) cap, .int .i64 n]
  own : w.ownsRow (p + 1) 5 1 (.slice (some ⟨g, 0, none⟩) (k + 1) cap) (k + 1) (cs (packN X (k + 1)))
  hn : n = X.length
  hk : k = n / 8
  hr : r = n % 8
  few : n < 1000000
namespace Wm
variable {w : World} {p g k cap n r : Nat} {X : List Bool}
theorem c0 (h : Wm w p g k cap n r X) : w.cell? ⟨p, 0, none⟩ = some (.slice (some ⟨g, 0, none⟩) (k + 1) cap) := h.blk.cell 0
theorem c1 (h : Wm w p g k cap n r X) : w.cell? ⟨p, 1, none⟩ = some (.int .i64 n) := h.blk.cell 1
theorem f1 (h : Wm w p g k cap n r X) : w.frozen? ⟨p, 1, none⟩ = false := h.blk.frozen 1
theorem f2 (h : Wm w p g k cap n r X) : w.frozen? ⟨g, k, none⟩ = false := h.own.frozenAt k
theorem ne (h : Wm w p g k cap n r X) : g ≠ p := by have := (h.own.lt g rfl).1; omega
theorem km (h : Wm w p g k cap n r X) : k ≤ 200000 := by have := h.hk; have := h.few; omega
theorem r8 (h : Wm w p g k cap n r X) : r < 8 := by have := h.hr; omega
theorem rem (h : Wm w p g k cap n r X) : (n : Int).tmod 8 = (r : Int) := by have := h.hr; rw [Int.tmod_eq_emod_of_nonneg (by omega)]; omega
theorem c2 (h : Wm w p g k cap n r X) : w.cell? ⟨g, k, none⟩ = some (.int .u8 (byteN X k)) := by
  have h2 := h.own.cellAt k (by omega)
  rw [cs_at (by rw [packN_length]; omega), gt_packN, if_pos (by omega), ofN_n _ (byteN_lt _ _)] at h2
  exact h2
theorem last (h : Wm w p g k cap n r X) : byteN X k < 2 ^ r := by
  have h1 := byteN_last X
  rw [← h.hn, ← h.hk, ← h.hr] at h1
  exact h1
theorem val (h : Wm w p g k cap n r X) (v : Nat) (hv : v < 4294967296) : bits BinOp.or IntKind.u8 (byteN X k : Int) (IntKind.u8.wrap (IntKind.u8.wrap ((v : Int) % 2) * 2 ^ r)) = ((ofN (byteN X k + (if v.testBit 0 then 2 ^ r else 0))).n : Int) := by
  have hp : 2 ^ r ≤ 2 ^ 7 := Nat.pow_le_pow_right (by decide) (by have := h.r8; omega)
  have e7 : (2 : Nat) ^ 7 = 128 := rfl
  have h2 := h.last
  rw [bit_or _ _ _ h.last h.r8 hv, ofN_n _ (by split <;> omega)]
theorem fin (h : Wm w p g k cap n r X) (v : Nat) : Wr (((w.setCell ⟨g, k, none⟩ (.int .u8 (ofN (byteN X k + (if v.testBit 0 then 2 ^ r else 0))).n)).setCell ⟨p, 1, none⟩ (.int .i64 (n + 1)))) p (some ⟨g, 0, none⟩) (k + 1) cap (n + 1) (X ++ [v.testBit 0]) := by
  have e1 := h.hn
  have e2 := h.hk
  have e3 := h.hr
  have h1 := (h.own.stored k (.int .u8 (ofN (byteN X k + (if v.testBit 0 then 2 ^ r else 0))).n)).1
  rw [cs_set, show (packN X (k + 1)).set k (ofN (byteN X k + (if v.testBit 0 then 2 ^ r else 0))) = pack (X ++ [v.testBit 0]) by rw [pack_snoc, packN_snoc, e2, e3, e1]] at h1
  refine ⟨?_, own_set_other h1 (by simp) _, ?_, ?_, ?_⟩
  · exact (h.blk.setOther (a := ⟨g, k, none⟩) h.ne.symm _).set_ 1 (.int .i64 ((n : Int) + 1))
  · unfold Hid; rw [List.length_append, List.length_singleton]; omega
  · unfold Hid; rw [List.length_append, List.length_singleton]; omega
  · have := h.few; omega
end Wm
theorem WOut.setG {p g : Nat} {a : Option Nat} {w w' : World} (h : WOut p a (some g) w w') (i : Nat) (v : Value) : WOut p a (some g) w (w'.setCell ⟨g, i, none⟩ v) := by
  refine h.trans ⟨rfl, rfl, rfl, by simp [World.setCell], fun k hk hp ha => Below.heap_setCell _ _ _ _ (fun e => ha (by simp at e; rw [e])), .inl rfl⟩
theorem WOut.drew {p : Nat} {a b : Option Nat} {w w' : World} (h : WOut p a b w w') : WOut p a b w w'.drew := ⟨h.os, h.tape, h.output, h.size, h.block, h.nw⟩
set_option maxHeartbeats 1000000 in
theorem bit_in {w : World} {p : Nat} {A : Option Addr} {len cap n : Nat} {X : List Bool} (h : Wr w p A len cap n X) (v : Nat) (hv : v < 4294967296) (hroom : n < 1000000) (hna : n < 8 * len) :
    Calls Try.prog 30 #[.pointer (some ⟨p, 0, none⟩), .int .u32 v] w fun e w' => e = .returned (.tuple #[]) ∧ ∃ A' len' cap', Wr w' p A' len' cap' (n + 1) (X ++ [v.testBit 0]) ∧ WOut p (Value.slice A len cap).ownBlock (Value.slice A' len' cap').ownBlock w w' := by
  have c0 := h.blk.cell 0
  have c1 := h.blk.cell 1
  simp at c0 c1
  have h8 := h.at8
  obtain ⟨k, rfl⟩ : ∃ k, len = k + 1 := ⟨len - 1, by omega⟩
  obtain ⟨r, hr⟩ : ∃ r, r = n % 8 := ⟨_, rfl⟩
  obtain ⟨g, rfl, hg1, hg2⟩ := own_addr h.own (by omega)
  have hneq : ((n : Int) == 8 * ((k + 1 : Nat) : Int)) = false := by
    rw [Bool.eq_false_iff, ne_eq, beq_iff_eq]
    omega
  have hM0 : Wm w p g k cap n r X := by
    refine ⟨h.blk, ?_, h.hn.out, by omega, hr, hroom⟩
    have h1 := h.own
    rw [show pack X = packN X (k + 1) by unfold pack; rw [h.hl.out]] at h1
    exact h1
  have HM := Lib.hid hM0
  have hkb : k ≤ 200000 := by omega
  clear hr h8 hM0 h hna
  go_enter Try.func30, Try.ntmps30
  go_wp2
  go_quiet (fail)
  go_wp2
  have hM : Wm (w.drewN nq) p g k cap n r X := ⟨HM.out.blk, HM.out.own, HM.out.hn, HM.out.hk, HM.out.hr, HM.out.few⟩
  have hO : WOut p (Value.slice (some ⟨g, 0, none⟩) (k + 1) cap).ownBlock (some g) w (w.drewN nq) := (WOut.refl _ _ _).drewN nq
  clear c0 c1 HM
  generalize w.drewN nq = W at *
  · have c0 := hM.c0
    have c1 := hM.c1
    have f1 := hM.f1
    have hc2 := hM.c2
    have hfz := hM.f2
    have hval := hM.val v hv
    have hfin := hM.fin v
    obtain ⟨b, hb⟩ : ∃ b, b = v.testBit 0 := ⟨_, rfl⟩
    obtain ⟨z, hz⟩ : ∃ z : F, z = ofN (byteN X k + (if v.testBit 0 then 2 ^ r else 0)) := ⟨_, rfl⟩
    rw [← hz, ← hb] at hfin
    rw [← hz] at hval
    have HV := Lib.hid hval
    have HF := Lib.hid hfin
    have HB := Lib.hid hb
    clear hval hfin hb hz
    have hgp := hM.ne
    have hpg := hM.ne.symm
    have hrem := hM.rem
    have hr8 := hM.r8
    have hkm := hM.km
    have hw1 : IntKind.i64.wrap (k : Int) = (k : Int) := IntWalk.i64_in _ (by omega)
    have hw2 : IntKind.i64.wrap ((k : Int) + 1 - 1) = (k : Int) := (IntWalk.i64_in _ (by omega)).trans (by omega)
    have hkl : (k : Int) < (k : Int) + 1 := by omega
    have hkz : (0 : Int) ≤ (k : Int) := by omega
    have hodd := odd32 v hv
    have hn6 := hM.few
    clear hM
    refine wp_region_still_tail 22 (by kernel_rfl) (by kernel_rfl) ?_
    simp only [List.take_succ_cons, List.take_zero, List.drop_succ_cons, List.drop_zero]
    change wpStill _ _ (World.drew W) (fun a' => wpList _ _ _ _ a' (World.drew W)) _ _
    repeat still_step
    refine wpStill_nil ?_
    rw [HV.out]
    go_wp2
    go_end0
    rw [← HB.out]
    exact ⟨rfl, some ⟨g, 0, none⟩, k + 1, cap, HF.out.drewN 1, ((hO.setG _ _).setP 1 _).drewN 1⟩
set_option maxHeartbeats 1000000 in
theorem bit_new {w : World} {p : Nat} {A : Option Addr} {len cap n : Nat} {X : List Bool} (h : Wr w p A len cap n X) (v : Nat) (hv : v < 4294967296) (hroom : n < 1000000) (hna : n = 8 * len) :
    Calls Try.prog 30 #[.pointer (some ⟨p, 0, none⟩), .int .u32 v] w fun e w' => e = .returned (.tuple #[]) ∧ ∃ A' len' cap', Wr w' p A' len' cap' (n + 1) (X ++ [v.testBit 0]) ∧ WOut p (Value.slice A len cap).ownBlock (Value.slice A' len' cap').ownBlock w w' := by
  obtain ⟨i0, hi, hz0, hz1, hz2⟩ := info_parts info_u8
  have c0 := h.blk.cell 0
  have c1 := h.blk.cell 1
  simp at c0 c1
  have hpl := h.lt
  have hneq : ((n : Int) == 8 * (len : Int)) = true := by
    rw [beq_iff_eq]
    omega
  have hlb : len ≤ 200000 := by omega
  have H := Lib.hid h
  have HNA := Lib.hid hna
  clear h hna
  go_enter Try.func30, Try.ntmps30
  go_wp2
  go_quiet (fail)
  have hW : Wr (w.drewN nq) p A len cap n X := H.out.drewN nq
  have hO0 : WOut p (Value.slice A len cap).ownBlock (Value.slice A len cap).ownBlock w (w.drewN nq) := (WOut.refl _ _ _).drewN nq
  clear c0 c1
  generalize w.drewN nq = W at *
  have c0 := hW.blk.cell 0
  have c1 := hW.blk.cell 1
  simp at c0 c1
  have HW := Lib.hid hW
  have hpW := hW.lt
  clear hW hpl
  go_wp2_with (at_builtin; refine wpList_append_lies _ rfl (.tmp 19) (.tmp 20) 37 rfl (p + 1) 5 i0 (.int .u8 0) 1 1 Try.underlying37 hi hz0 hz1 hz2 rfl (by decide) (.slice A len cap) len (cs (pack X)) rfl (HW.out.own.alloc _) ⟨W.heap.size, 0, none⟩ 1 1 [.int .u8 0] rfl rfl (one_cell W _ _) (by intro u hu; simp at hu; subst hu; rfl) (by omega) (by unfold maxLen; omega) (by omega) (by simp; omega) (W.heap.size + 1) (by simp) ?_; intro g cap' w1 hown1 hg1 hat1 hlt1; have hblk1 := Blk.kept (HW.out.blk.below HW.out.lt ((Below.refl _ W).alloc (Nat.le_refl _) (.cells #[.int .u8 0] 5))) hg1 ⟨by simp; omega, fun e => by have := (HW.out.own.lt p e).1; omega⟩; have d0 := hblk1.cell 0; have d1 := hblk1.cell 1; have g0 := hblk1.frozen 0; simp at d0 d1)
  go_wp2
  obtain ⟨r, hr⟩ : ∃ r, r = n % 8 := ⟨_, rfl⟩
  have hM : Wm (w1.setCell ⟨p, 0, none⟩ (.slice (some ⟨g, 0, none⟩) (len + 1) cap')) p g len cap' n r X := by
    refine ⟨hblk1.set_ 0 _, own_set_other ?_ (by simp) _, HW.out.hn.out, ?_, ?_, hroom⟩
    · rw [packN_succ_of (by rw [← HW.out.hn.out, HNA.out]; omega), cs_append]
      rw [show packN X len = pack X by unfold pack; rw [HW.out.hl.out]]
      exact hown1
    · have := HNA.out; omega
    · exact hr
  have hO : WOut p (Value.slice A len cap).ownBlock (some g) w (w1.setCell ⟨p, 0, none⟩ (.slice (some ⟨g, 0, none⟩) (len + 1) cap')) := by
    refine WOut.setP (hO0.trans ⟨hg1.os, hg1.tape, hg1.output, ?_, fun k hk hp ha => ?_, ?_⟩) 0 _
    · have := hg1.size; simp at this; omega
    · rw [hg1.block k (by simp; omega) (fun e => ha e.symm)]
      exact Below.heap_alloc _ _ _ hk
    · rcases hat1 with h1 | h1
      · exact .inl h1.symm
      · exact .inr fun x hx => by cases hx; omega
  clear hr hO0 hown1 hg1 hat1 hlt1 hblk1 g0 d0 d1 c0 c1 HNA hneq HW H
  generalize w1.setCell ⟨p, 0, none⟩ (.slice (some ⟨g, 0, none⟩) (len + 1) cap') = W2 at *
  · have c0 := hM.c0
    have c1 := hM.c1
    have f1 := hM.f1
    have hc2 := hM.c2
    have hfz := hM.f2
    have hval := hM.val v hv
    have hfin := hM.fin v
    obtain ⟨b, hb⟩ : ∃ b, b = v.testBit 0 := ⟨_, rfl⟩
    obtain ⟨z, hz⟩ : ∃ z : F, z = ofN (byteN X len + (if v.testBit 0 then 2 ^ r else 0)) := ⟨_, rfl⟩
    rw [← hz, ← hb] at hfin
    rw [← hz] at hval
    have HV := Lib.hid hval
    have HF := Lib.hid hfin
    have HB := Lib.hid hb
    clear hval hfin hb hz
    have hgp := hM.ne
    have hpg := hM.ne.symm
    have hrem := hM.rem
    have hr8 := hM.r8
    have hkm := hM.km
    have hw1 : IntKind.i64.wrap (len : Int) = (len : Int) := IntWalk.i64_in _ (by omega)
    have hw2 : IntKind.i64.wrap ((len : Int) + 1 - 1) = (len : Int) := (IntWalk.i64_in _ (by omega)).trans (by omega)
    have hkl : (len : Int) < (len : Int) + 1 := by omega
    have hkz : (0 : Int) ≤ (len : Int) := by omega
    have hodd := odd32 v hv
    have hn6 := hM.few
    clear hM
    refine wp_region_still_tail 22 (by kernel_rfl) (by kernel_rfl) ?_
    simp only [List.take_succ_cons, List.take_zero, List.drop_succ_cons, List.drop_zero]
    change wpStill _ _ (World.drew W2) (fun a' => wpList _ _ _ _ a' (World.drew W2)) _ _
    repeat still_step
    refine wpStill_nil ?_
    rw [HV.out]
    go_wp2
    go_end0
    rw [← HB.out]
    exact ⟨rfl, some ⟨g, 0, none⟩, len + 1, cap', HF.out.drewN 1, ((hO.setG _ _).setP 1 _).drewN 1⟩
theorem bit_c {w : World} {p : Nat} {A : Option Addr} {len cap n : Nat} {X : List Bool} (h : Wr w p A len cap n X) (v : Nat) (hv : v < 4294967296) (hroom : n < 1000000) :
    Calls Try.prog 30 #[.pointer (some ⟨p, 0, none⟩), .int .u32 v] w fun e w' => e = .returned (.tuple #[]) ∧ ∃ A' len' cap', Wr w' p A' len' cap' (n + 1) (X ++ [v.testBit 0]) ∧ WOut p (Value.slice A len cap).ownBlock (Value.slice A' len' cap').ownBlock w w' := by
  have h8 := h.at8
  by_cases e : n = 8 * len
  · exact bit_new h v hv hroom e
  · exact bit_in h v hv hroom (by omega)
end Go.Proofs.Ytanhgjaokgnlhaa
