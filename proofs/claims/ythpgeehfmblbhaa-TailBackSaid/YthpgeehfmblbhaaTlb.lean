/-
  TAILS: what stands while a record is laid; the three closures. No conditions.
-/
import Derived.Test.YthpgeehfmblbhaaTla
namespace Go.Proofs.Ythpgeehfmblbhaa
open Go.RowKit
set_option maxRecDepth 100000
set_option linter.unusedVariables false

/-- a tail's numbers, in the order of its fields -/
structure Tl where
  di : Nat
  st : Nat
  he : Nat
  co : Nat
  sz : Nat
  o : Nat
  d6 : Nat
  ds : Nat
  o6 : Nat
def tlC (t : Tl) : Array Value := #[.int .u32 t.di, .int .u32 t.st, .int .u64 t.he, .int .u64 t.co, .int .u64 t.sz, .int .u64 t.o, .int .u32 t.d6, .int .u32 t.ds, .int .u64 t.o6]
def tlV (t : Tl) : Value := .agg (tlC t)
structure TlW (t : Tl) : Prop where
  di : t.di < 4294967296
  st : t.st < 4294967296
  he : t.he < two64
  co : t.co < two64
  sz : t.sz < two64
  o : t.o < two64
  d6 : t.d6 < 4294967296
  ds : t.ds < 4294967296
  o6 : t.o6 < two64
/-- the great end's numbers, the locator's, the end's -/
def tlP1 (t : Tl) : List (Nat × Nat) := [(101075792, 4), (44, 8), (45, 2), (45, 2), (t.di, 4), (t.st, 4), (t.he, 8), (t.co, 8), (t.sz, 8), (t.o, 8)]
def tlP2 (t : Tl) : List (Nat × Nat) := [(117853008, 4), (t.d6, 4), (t.o6, 8), (t.ds, 4)]
def tlP3 (t : Tl) : List (Nat × Nat) := [(101010256, 4), (min t.di 65535, 2), (min t.st 65535, 2), (min t.he 65535, 2), (min t.co 65535, 2), (min t.sz 4294967295, 4), (min t.o 4294967295, 4), (0, 2)]
/-- while a record is laid: the tail's box, the bytes in theirs -/
structure TlSt (w W : World) (gt : Nat) (T : TypeId) (H : Array Value) (q base : Nat) (V : Option Addr) (N c : Nat) (Y : List F) : Prop where
  box : Blk W gt T H
  bx : BxO W q base V N c Y
  lo : gt < base
  sz : base ≤ W.heap.size
  bel : Below base w W
theorem TlSt.own_lo {w W : World} {gt : Nat} {T : TypeId} {H : Array Value} {q base : Nat} {V : Option Addr} {N c : Nat} {Y : List F} (h : TlSt w W gt T H q base V N c Y) : ∀ g, (Value.slice V N c).ownBlock = some g → base ≤ g := fun g hg => (h.bx.own.lt g hg).1
/-- more numbers of one size -/
theorem TlSt.put {w W : World} {gt : Nat} {T : TypeId} {H : Array Value} {q base : Nat} {V : Option Addr} {N c : Nat} {Y : List F} (h : TlSt w W gt T H q base V N c Y) (hN : N ≤ 1000000) (s : Nat) (hs : s ≤ 8) (zs : List Nat) (hz : ∀ z ∈ zs, z < two64) (n : Nat) (hn : zs.length = n) (hn1 : n ≤ 100) (t : TypeId) (C : Array Value) (hC : C = ((zs.map fun (z : Nat) => (z : Int)).map (Value.int .u64)).toArray) (ca a : Nat) (ha : a = W.heap.size) (zi : Int) (hzi : zi = (s : Int)) :
    Calls Try.prog 31 #[.int .i64 zi, .slice (some ⟨a, 0, none⟩) n ca, .pointer (some ⟨q, 0, none⟩)] (W.alloc (.cells C t)) fun e w' => e = .returned (.tuple #[]) ∧ ∃ V' c', TlSt w w' gt T H q base V' (N + nsN (szP s zs)) c' (Y ++ nsB (szP s zs)) := by
  subst ha hzi
  have hb := (Below.refl W.heap.size W).alloc (Nat.le_refl _) (.cells C t)
  have hbx := h.bx.below hb
  have hI := irow_blk (Blk.new W t C) (zs.map fun (z : Nat) => (z : Int)) n hC (by rw [List.length_map]; exact hn) (by unfold maxLen; omega) (by
    intro x hx
    obtain ⟨z, hz1, rfl⟩ := List.mem_map.1 hx
    exact wfU64 _ (hz z hz1))
  have hlo := h.bx.lo
  have hsz := h.sz
  refine (tput_c s hs (some ⟨W.heap.size, 0, none⟩) n ca zs hz hn1 _ hI q base V N c Y hbx hN ?_ (by simp; omega)).mono ?_
  · intro b o e
    cases e
    have hq := h.bx.lt
    exact ⟨by omega, fun e => by have := (h.bx.own.lt _ e).2; omega⟩
  · rintro e w' ⟨rfl, V', c', hx, ho⟩
    have hbo : Below base (W.alloc (.cells C t)) w' := ho.below hlo (by simp; omega) h.own_lo
    have hbw : Below base W w' := (hb.mono hsz).trans hbo
    exact ⟨rfl, V', c', h.box.lowB h.lo hbw, hx, h.lo, by have := hbw.size; omega, h.bel.trans hbw⟩
set_option maxHeartbeats 2000000 in
theorem Great1_c (t : Tl) (ht : TlW t) (w W : World) (gt q base : Nat) (V : Option Addr) (c : Nat) (S : TlSt w W gt 25 (tlC t) q base V 0 c []) :
    Calls Try.prog 21 #[.func (.func 31) #[] #[.pointer (some ⟨q, 0, none⟩)], .pointer (some ⟨gt, 0, none⟩)] W fun e w' => e = .returned (.tuple #[]) ∧ ∃ V' c', TlSt w w' gt 25 (tlC t) q base V' 56 c' (nsB (tlP1 t)) := by
  have hw := ht
  have HE : Hid ((((([] ++ nsB (szP 4 [101075792])) ++ nsB (szP 8 [44])) ++ nsB (szP 2 [45, 45])) ++ nsB (szP 4 [t.di, t.st])) ++ nsB (szP 8 [t.he, t.co, t.sz, t.o]) = nsB (tlP1 t)) := by
    unfold Hid tlP1 szP
    simp [nsB, List.append_assoc]
  have S0 := Lib.hid S
  have d1 := ht.di
  have d2 := ht.st
  have d3 := ht.he
  have d4 := ht.co
  have d5 := ht.sz
  have d6 := ht.o
  clear S hw ht
  generalize nsB (tlP1 t) = X at *
  obtain ⟨di, st, he, co, sz, o, d6', ds, o6⟩ := t
  unfold tlC at *
  dsimp only at *
  have u1 : IntKind.u64.wrap (di : Int) = (di : Int) := by show (di : Int) % 18446744073709551616 = _; omega
  have u2 : IntKind.u64.wrap (st : Int) = (st : Int) := by show (st : Int) % 18446744073709551616 = _; omega
  go_enter Try.func21, Try.ntmps21
  go_wp2_with fail
  refine (S0.out.put (by omega) 4 (by omega) [101075792] (by unfold two64; simp) 1 rfl (by omega) _ _ rfl _ _ (by simp) _ rfl).mono ?_
  rintro e W1 ⟨rfl, V1, c1, s1⟩
  have S1 : Hid (TlSt w W1 _ _ _ _ _ V1 4 c1 _) := s1
  clear s1 S0
  go_wp2_with fail
  refine (S1.out.put (by omega) 8 (by omega) [44] (by unfold two64; simp) 1 rfl (by omega) _ _ rfl _ _ (by simp) _ rfl).mono ?_
  rintro e W2 ⟨rfl, V2, c2, s2⟩
  have S2 : Hid (TlSt w W2 _ _ _ _ _ V2 12 c2 _) := s2
  clear s2 S1
  go_wp2_with fail
  refine (S2.out.put (by omega) 2 (by omega) [45, 45] (by unfold two64; simp) 2 rfl (by omega) _ _ rfl _ _ (by simp) _ rfl).mono ?_
  rintro e W3 ⟨rfl, V3, c3, s3⟩
  have S3 : Hid (TlSt w W3 _ _ _ _ _ V3 16 c3 _) := s3
  clear s3 S2
  have e0 := (S3.out.box.cell 0).trans rfl
  have e1 := (S3.out.box.cell 1).trans rfl
  go_wp2_with fail
  refine (S3.out.put (by omega) 4 (by omega) [di, st] (by unfold two64 at *; simp; omega) 2 rfl (by omega) _ _ rfl _ _ (by simp) _ rfl).mono ?_
  rintro e W4 ⟨rfl, V4, c4, s4⟩
  have S4 : Hid (TlSt w W4 _ _ _ _ _ V4 24 c4 _) := s4
  clear s4 S3 e0 e1
  have e2 := (S4.out.box.cell 2).trans rfl
  have e3 := (S4.out.box.cell 3).trans rfl
  have e4 := (S4.out.box.cell 4).trans rfl
  have e5 := (S4.out.box.cell 5).trans rfl
  go_wp2_with fail
  refine (S4.out.put (by omega) 8 (by omega) [he, co, sz, o] (by unfold two64 at *; simp; omega) 4 rfl (by omega) _ _ rfl _ _ (by simp) _ rfl).mono ?_
  rintro e W5 ⟨rfl, V5, c5, s5⟩
  have S5 : Hid (TlSt w W5 _ _ _ _ _ V5 56 c5 _) := s5
  rw [HE.out] at S5
  clear s5 S4 e2 e3 e4 e5
  go_wp2
  go_end0
  exact ⟨rfl, V5, c5, S5.out⟩
end Go.Proofs.Ythpgeehfmblbhaa
