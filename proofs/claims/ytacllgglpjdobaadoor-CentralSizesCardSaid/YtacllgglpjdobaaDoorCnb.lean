/-
  RECORDS OF THE DIRECTORY: their cells, the numbers that do not fit, how many bytes stand behind the name, how many bytes a record has; methods. No conditions (but for the length of a name).
-/
import Derived.Test.YtacllgglpjdobaaDoorCna
import Derived.Deep.RegionHeld3
import Derived.Deep.RegionWith
namespace Go.Proofs.YtacllgglpjdobaaDoor
open Go.RowKit
set_option maxRecDepth 100000
set_option linter.unusedVariables false

/-- a record: a header, its disk, its offset -/
structure Rc where
  h : Hd
  d : Nat
  o : Nat
def rcC (c : Rc) : Array Value := #[.int .i64 c.h.m, .int .i64 c.h.t.y, .int .i64 c.h.t.mo, .int .i64 c.h.t.d, .int .i64 c.h.t.h, .int .i64 c.h.t.mi, .int .i64 c.h.t.s, .int .u32 c.h.sum, .int .u64 c.h.pk, .int .u64 c.h.sz, .string (S c.h.nm), .int .u32 c.d, .int .u64 c.o]
def rcV (c : Rc) : Value := .agg (rcC c)
structure RcW (c : Rc) : Prop where
  h : HdW c.h
  d : c.d < 4294967296
  o : c.o < two64
/-- the numbers that do not fit -/
def bgs (c : Rc) : List Nat := fl [c.h.sz, c.h.pk, c.o]
theorem bgs_le (c : Rc) : (bgs c).length ≤ 3 := List.length_filter_le _ _
/-- how many bytes stand behind the name -/
def bh (c : Rc) : Nat := if 8 * (bgs c).length + (if 65535 ≤ c.d then 4 else 0) = 0 then 0 else 8 * (bgs c).length + (if 65535 ≤ c.d then 4 else 0) + 4
theorem bh_le (c : Rc) : bh c ≤ 32 := by
  have := bgs_le c
  unfold bh
  by_cases h1 : 65535 ≤ c.d
  · rw [if_pos h1, if_neg (by omega)]
    omega
  · rw [if_neg h1]
    split <;> omega
theorem checkMethodC_c (m : Int) (w : World) : Calls Tryd.prog 20 #[.int .i64 m] w fun e w' => e = .returned (.int .i64 (mthE m)) ∧ w = w' := by
  by_cases h0 : m = 0
  · subst h0
    go_enter Tryd.func20, Tryd.ntmps20
    go_wp2
    go_ret
    exact ⟨rfl, rfl⟩
  · by_cases h8 : m = 8
    · subst h8
      go_enter Tryd.func20, Tryd.ntmps20
      go_wp2
      go_ret
      exact ⟨rfl, rfl⟩
    · have b0 : (m != 0) = true := by rw [bne_iff_ne]; exact h0
      have b8 : (m != 8) = true := by rw [bne_iff_ne]; exact h8
      have he : mthE m = 43 := if_neg (by omega)
      rw [he]
      clear h0 h8 he
      go_enter Tryd.func20, Tryd.ntmps20
      go_wp2
      go_ret
      exact ⟨rfl, rfl⟩
set_option maxHeartbeats 1000000 in
theorem tooGreat_c {c : Rc} (hW : RcW c) (w : World) : Calls Tryd.prog 42 #[rcV c] w fun e w' => e = .returned (.slice (some ⟨w.heap.size + 1, 0, none⟩) (bgs c).length 3) ∧ IRow w' (some ⟨w.heap.size + 1, 0, none⟩) (bgs c).length .u64 ((bgs c).map fun (z : Nat) => (z : Int)) ∧ Below w.heap.size w w' := by
  have hp := hW.h.pk
  have hz := hW.h.sz
  have ho := hW.o
  obtain ⟨⟨m, ⟨y, mo, d, hh, mi, s⟩, sum, p, z, nm⟩, k, o⟩ := c
  unfold rcV rcC
  unfold bgs
  dsimp only at *
  have hb1 := (Below.refl w.heap.size w).alloc (Nat.le_refl _) (.cells #[.int .i64 m, .int .i64 y, .int .i64 mo, .int .i64 d, .int .i64 hh, .int .i64 mi, .int .i64 s, .int .u32 sum, .int .u64 p, .int .u64 z, .string (S nm), .int .u32 k, .int .u64 o] 29)
  have hb2 := hb1.alloc (by simp) (.cells #[.int .u64 (z : Nat), .int .u64 (p : Nat), .int .u64 (o : Nat)] 25)
  have hown := World.ownsRow_lit (base := w.heap.size + 1) (e := 25) (size := 1) (w.alloc (.cells #[.int .i64 m, .int .i64 y, .int .i64 mo, .int .i64 d, .int .i64 hh, .int .i64 mi, .int .i64 s, .int .u32 sum, .int .u64 p, .int .u64 z, .string (S nm), .int .u32 k, .int .u64 o] 29)) #[.int .u64 (z : Nat), .int .u64 (p : Nat), .int .u64 (o : Nat)] 3 (by simp) (by unfold maxLen; omega) rfl
  have e1 : (w.alloc (.cells #[.int .i64 m, .int .i64 y, .int .i64 mo, .int .i64 d, .int .i64 hh, .int .i64 mi, .int .i64 s, .int .u32 sum, .int .u64 p, .int .u64 z, .string (S nm), .int .u32 k, .int .u64 o] 29)).heap.size = w.heap.size + 1 := by simp
  rw [e1] at hown
  have HD := Lib.hid (DeleteU_c (B := w.heap.size) (zs := [z, p, o]) hown rfl (by omega) (fun x hx => by
    simp at hx
    rcases hx with rfl | rfl | rfl
    · exact hz
    · exact hp
    · exact ho) (by omega) hb2.size)
  have HB := Lib.hid hb2
  clear hb1 hb2 hown hp hz ho e1 hW
  generalize fl [z, p, o] = l at *
  go_enter Tryd.func42, Tryd.ntmps42
  go_wp2_with fail
  refine HD.out.mono ?_
  rintro e w2 ⟨rfl, hr, hb⟩
  have HR := Lib.hid hr
  have HBB := Lib.hid (HB.out.trans hb)
  clear hr hb
  go_wp2
  go_ret
  exact ⟨rfl, HR.out, HBB.out⟩
set_option maxHeartbeats 1000000 in
theorem behind_c {c : Rc} (hW : RcW c) (w : World) : Calls Tryd.prog 27 #[rcV c] w fun e w' => e = .returned (.int .i64 (bh c : Nat)) ∧ Below w.heap.size w w' := by
  have hl := bgs_le c
  have HG := Lib.hid (fun w => tooGreat_c hW w)
  obtain ⟨n, hn⟩ : ∃ n, n = (bgs c).length := ⟨_, rfl⟩
  have hbh : bh c = if 8 * n + (if 65535 ≤ c.d then 4 else 0) = 0 then 0 else 8 * n + (if 65535 ≤ c.d then 4 else 0) + 4 := by rw [hn]; rfl
  rw [hbh]
  rw [← hn] at HG hl
  clear hbh hn hW
  unfold rcV at *
  have HB := Lib.hid ((Below.refl w.heap.size w).alloc (Nat.le_refl _) (.cells (rcC c) 29))
  have HX := Lib.hid (Blk.new w 29 (rcC c))
  obtain ⟨⟨m, ⟨y, mo, d, hh, mi, s⟩, sum, p, z, nm⟩, k, o⟩ := c
  unfold rcC at *
  dsimp only at *
  obtain ⟨q, hq⟩ : ∃ q, q = 8 * n := ⟨_, rfl⟩
  have e8 : IntKind.i64.wrap (8 * (n : Int)) = (q : Int) := (IntWalk.i64_in _ (by omega)).trans (by omega)
  rw [← hq]
  have hq9 : q ≤ 24 := by omega
  clear hq
  by_cases hk : 65535 ≤ k
  · have hki : (65535 : Int) ≤ (k : Int) := by omega
    have hz : ¬ q + 4 = 0 := by omega
    rw [if_pos hk, if_neg hz]
    clear hk hz
    go_enter Tryd.func27, Tryd.ntmps27
    go_wp2_with fail
    refine (HG.out _).mono ?_
    rintro e w2 ⟨rfl, hr, hb⟩
    have HX2 := Lib.hid (HX.out.below HX.out.lt hb)
    have HB2 := Lib.hid (HB.out.trans (hb.mono HB.out.size))
    clear hr hb HX HB
    have x11 := (HX2.out.cell 11).trans (show _ = some (Value.int .u32 (k : Nat)) from rfl)
    have e9 : IntKind.i64.wrap ((q : Int) + 4) = ((q + 4 : Nat) : Int) := (IntWalk.i64_in _ (by omega)).trans (by omega)
    have e10 : IntKind.i64.wrap (((q + 4 : Nat) : Int) + 4) = ((q + 4 + 4 : Nat) : Int) := (IntWalk.i64_in _ (by omega)).trans (by omega)
    have e11 : (0 : Int) < ((q + 4 : Nat) : Int) := by omega
    go_wp2
    go_ret
    exact ⟨by simp, HB2.out⟩
  · have hki : decide ((65535 : Int) ≤ (k : Int)) = false := decide_eq_false (by omega)
    rw [if_neg hk, Nat.add_zero]
    clear hk
    by_cases h0 : q = 0
    · rw [if_pos h0]
      rw [h0] at e8
      clear h0 hq9
      go_enter Tryd.func27, Tryd.ntmps27
      go_wp2_with fail
      refine (HG.out _).mono ?_
      rintro e w2 ⟨rfl, hr, hb⟩
      have HX2 := Lib.hid (HX.out.below HX.out.lt hb)
      have HB2 := Lib.hid (HB.out.trans (hb.mono HB.out.size))
      clear hr hb HX HB
      have x11 := (HX2.out.cell 11).trans (show _ = some (Value.int .u32 (k : Nat)) from rfl)
      go_wp2
      go_ret
      exact ⟨by simp, HB2.out⟩
    · have e11 : (0 : Int) < (q : Int) := by omega
      have e9 : IntKind.i64.wrap ((q : Int) + 4) = ((q + 4 : Nat) : Int) := (IntWalk.i64_in _ (by omega)).trans (by omega)
      rw [if_neg h0]
      clear h0
      go_enter Tryd.func27, Tryd.ntmps27
      go_wp2_with fail
      refine (HG.out _).mono ?_
      rintro e w2 ⟨rfl, hr, hb⟩
      have HX2 := Lib.hid (HX.out.below HX.out.lt hb)
      have HB2 := Lib.hid (HB.out.trans (hb.mono HB.out.size))
      clear hr hb HX HB
      have x11 := (HX2.out.cell 11).trans (show _ = some (Value.int .u32 (k : Nat)) from rfl)
      go_wp2
      go_ret
      exact ⟨by simp, HB2.out⟩
end Go.Proofs.YtacllgglpjdobaaDoor
