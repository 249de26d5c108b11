/-
  RECORDS OF THE DIRECTORY: read (WRITTEN by wip/gen19l.py). No conditions (but that the bytes are as many as their own numbers tell).
-/
import Derived.Test.YtacllgglpjdobaaDoorCni
namespace Go.Proofs.YtacllgglpjdobaaDoor
open Go.RowKit
set_option maxRecDepth 100000
set_option linter.unusedVariables false

/-- while what stands behind the name is read: the box that it is laid in, the reader, the row of pointers -/
structure RdP (w W : World) (H : Array Value) (p : Nat) (A : Option Addr) (n c : Nat) (l : List F) (k : Nat) (sh : Bool) (g : Nat) : Prop where
  box : Blk W w.heap.size 29 H
  rd : Rdr W p A n c l k sh
  lo : w.heap.size + 1 ≤ p
  alo : ∀ b o, A = some ⟨b, o, none⟩ → w.heap.size + 1 ≤ b
  bel : Below w.heap.size w W
  ptr : Blk W g 98 #[.pointer (some ⟨w.heap.size, 9, none⟩), .pointer (some ⟨w.heap.size, 8, none⟩), .pointer (some ⟨w.heap.size, 12, none⟩)]
  gp : g ≠ p
  gw : w.heap.size < g
section
variable {w W : World} {H : Array Value} {p : Nat} {A : Option Addr} {n c : Nat} {l : List F} {k g : Nat} {sh : Bool}
theorem RdP.out {W' : World} {k' : Nat} {sh' : Bool} (h : RdP w W H p A n c l k sh g) (hr : Rdr W' p A n c l k' sh') (ho : Out p (p + 1) W W') : RdP w W' H p A n c l k' sh' g := by
  have hlo := h.lo
  have hlt := h.box.lt
  have hgp := h.gp
  have hb : Below (w.heap.size + 1) W W' := ho.lowAt hlo h.rd.lt
  refine ⟨h.box.lowB (by omega) hb, hr, hlo, h.alo, h.bel.trans (hb.mono (by omega)), ?_, h.gp, h.gw⟩
  have := h.ptr
  unfold Blk at this ⊢
  rw [ho.block g h.ptr.lt (by omega)]
  exact this
theorem RdP.set (h : RdP w W H p A n c l k sh g) (i : Nat) (v : Value) : RdP w (W.setCell ⟨w.heap.size, i, none⟩ v) (H.setIfInBounds i v) p A n c l k sh g := by
  have ho : Out w.heap.size (w.heap.size + 1) W (W.setCell ⟨w.heap.size, i, none⟩ v) := (Out.refl _ _ W).setCell i v
  have hlo := h.lo
  have hgw := h.gw
  refine ⟨h.box.set_ i v, h.rd.out ho (by omega) (fun b o e => by have := h.alo b o e; omega), hlo, h.alo, h.bel.trans (ho.lowAt (Nat.le_refl _) h.box.lt), ?_, h.gp, h.gw⟩
  exact h.ptr.setOther (a := ⟨w.heap.size, i, none⟩) (by show g ≠ w.heap.size; omega) v
/-- what a number is, whether there are bytes enough or not -/
structure NmV (l : List F) (n k s : Nat) (sh : Bool) (v k' : Nat) (sh' : Bool) : Prop where
  lt : v < 256 ^ s
  ok : sh = false → k + s ≤ n → v = atL l k s ∧ k' = k + s ∧ sh' = false
theorem RdP.num (h : RdP w W H p A n c l k sh g) (s : Nat) (z : Int) (hz : z = (s : Int)) (hs : s ≤ 8) :
    Calls Tryd.prog 50 #[.pointer (some ⟨p, 0, none⟩), .int .i64 z] W fun e w' => ∃ v k' sh', e = .returned (.int .u64 (v : Nat)) ∧ RdP w w' H p A n c l k' sh' g ∧ NmV l n k s sh v k' sh' := by
  subst hz
  have h8 := held_le8 hs
  have hle := h.rd.le
  by_cases hg : sh = false ∧ k + s ≤ n
  · obtain ⟨rfl, hk⟩ := hg
    have hn := Num_ok h.rd (s : Int) (by rw [h8]; exact hk)
    rw [h8] at hn
    refine hn.mono ?_
    rintro e w' ⟨rfl, hr, ho⟩
    rw [← atL_eq _ _ _ hs]
    exact ⟨_, _, _, rfl, h.out hr ho, atL_lt _ _ _ hs, fun _ _ => ⟨rfl, rfl, rfl⟩⟩
  · have hn := Num_no h.rd (s : Int) (by
      rw [h8]
      cases sh
      · right
        have : ¬ k + s ≤ n := fun e => hg ⟨rfl, e⟩
        omega
      · left; rfl)
    refine hn.mono ?_
    rintro e w' ⟨rfl, hr, ho⟩
    exact ⟨0, _, _, rfl, h.out hr ho, Nat.pow_pos (by decide), fun e1 e2 => absurd ⟨e1, e2⟩ hg⟩
end
def KK (l : List F) (i : Nat) : Nat := if i = 0 then f1 l else if i = 1 then f2 l else if i = 2 then f3 l else f4 l
/-- the numbers behind the name, when i of them were looked at -/
structure RdI (l : List F) (i a b o k : Nat) (sh : Bool) : Prop where
  a0 : i < 1 → a = atL l 24 4
  b0 : i < 2 → b = atL l 20 4
  o0 : i < 3 → o = atL l 42 4
  al : a < two64
  bl : b < two64
  ol : o < two64
  a1 : atL l 30 2 = ndL l → 1 ≤ i → a = (rdR l).h.sz
  b1 : atL l 30 2 = ndL l → 2 ≤ i → b = (rdR l).h.pk
  o1 : atL l 30 2 = ndL l → 3 ≤ i → o = (rdR l).o
  pos : atL l 30 2 = ndL l → ndL l ≠ 0 → sh = false ∧ k = KK l i
theorem nd_fits {l : List F} {n : Nat} (hn : n = tolC l) (h : atL l 30 2 = ndL l) (h0 : ndL l ≠ 0) : f1 l + q8 (gS l) + q8 (gP l) + q8 (gO l) + q4 (gD l) = n := by
  unfold tolC at hn
  rw [h] at hn
  have e : ndL l = q8 (gS l) + q8 (gP l) + q8 (gO l) + q4 (gD l) + 4 := by
    unfold ndL ndG at h0 ⊢
    split
    · rename_i h1; rw [if_pos h1] at h0; exact absurd rfl h0
    · rfl
  unfold f1
  omega
theorem nd_S {l : List F} (h : gS l = true) : ndL l ≠ 0 := by unfold ndL ndG; rw [h]; simp [q8]
theorem nd_P {l : List F} (h : gP l = true) : ndL l ≠ 0 := by unfold ndL ndG; rw [h]; simp [q8]
theorem nd_O {l : List F} (h : gO l = true) : ndL l ≠ 0 := by unfold ndL ndG; rw [h]; simp [q8]
theorem nd_D {l : List F} (h : gD l = true) : ndL l ≠ 0 := by unfold ndL ndG; rw [h]; simp [q4]
theorem two64_256 : (256 : Nat) ^ 8 = two64 := by unfold two64; decide
section
variable {l : List F} {n a b o k : Nat} {sh : Bool}
theorem RdI.keep0 (h : RdI l 0 a b o k sh) (g : gS l = false) : RdI l 1 a b o k sh :=
  ⟨fun e => by omega, fun _ => h.b0 (by omega), fun _ => h.o0 (by omega), h.al, h.bl, h.ol, fun _ _ => by rw [h.a0 (by omega)]; unfold rdR; rw [g]; rfl, fun _ e => by omega, fun _ e => by omega, fun e1 e2 => by
    obtain ⟨p1, p2⟩ := h.pos e1 e2
    refine ⟨p1, p2.trans ?_⟩
    show f1 l = f2 l
    unfold f2; rw [g]; rfl⟩
theorem RdI.keep1 (h : RdI l 1 a b o k sh) (g : gP l = false) : RdI l 2 a b o k sh :=
  ⟨fun e => by omega, fun e => by omega, fun _ => h.o0 (by omega), h.al, h.bl, h.ol, fun e _ => h.a1 e (by omega), fun _ _ => by rw [h.b0 (by omega)]; unfold rdR; rw [g]; rfl, fun _ e => by omega, fun e1 e2 => by
    obtain ⟨p1, p2⟩ := h.pos e1 e2
    refine ⟨p1, p2.trans ?_⟩
    show f2 l = f3 l
    unfold f3; rw [g]; rfl⟩
theorem RdI.keep2 (h : RdI l 2 a b o k sh) (g : gO l = false) : RdI l 3 a b o k sh :=
  ⟨fun e => by omega, fun e => by omega, fun e => by omega, h.al, h.bl, h.ol, fun e _ => h.a1 e (by omega), fun e _ => h.b1 e (by omega), fun _ _ => by rw [h.o0 (by omega)]; unfold rdR; rw [g]; rfl, fun e1 e2 => by
    obtain ⟨p1, p2⟩ := h.pos e1 e2
    refine ⟨p1, p2.trans ?_⟩
    show f3 l = f4 l
    unfold f4; rw [g]; rfl⟩
variable {v k' : Nat} {sh' : Bool}
theorem RdI.read0 (h : RdI l 0 a b o k sh) (hn : n = tolC l) (g : gS l = true) (hv : NmV l n k 8 sh v k' sh') : RdI l 1 v b o k' sh' := by
  have hl := hv.lt
  rw [two64_256] at hl
  have H : atL l 30 2 = ndL l → v = atL l (f1 l) 8 ∧ k' = f2 l ∧ sh' = false := fun e1 => by
    obtain ⟨rfl, rfl⟩ := h.pos e1 (nd_S g)
    have hf := nd_fits hn e1 (nd_S g)
    rw [g] at hf
    obtain ⟨h1, h2, h3⟩ := hv.ok rfl (by show f1 l + 8 ≤ n; unfold q8 at hf; rw [if_pos rfl] at hf; omega)
    exact ⟨h1, by rw [h2]; show f1 l + 8 = f2 l; unfold f2; rw [g]; rfl, h3⟩
  exact ⟨fun e => by omega, fun _ => h.b0 (by omega), fun _ => h.o0 (by omega), hl, h.bl, h.ol, fun e _ => by rw [(H e).1]; unfold rdR; rw [g]; rfl, fun _ e => by omega, fun _ e => by omega, fun e1 _ => ⟨(H e1).2.2, (H e1).2.1⟩⟩
theorem RdI.read1 (h : RdI l 1 a b o k sh) (hn : n = tolC l) (g : gP l = true) (hv : NmV l n k 8 sh v k' sh') : RdI l 2 a v o k' sh' := by
  have hl := hv.lt
  rw [two64_256] at hl
  have H : atL l 30 2 = ndL l → v = atL l (f2 l) 8 ∧ k' = f3 l ∧ sh' = false := fun e1 => by
    obtain ⟨rfl, rfl⟩ := h.pos e1 (nd_P g)
    have hf := nd_fits hn e1 (nd_P g)
    rw [g] at hf
    have e8 : q8 true = 8 := rfl
    rw [e8] at hf
    obtain ⟨h1, h2, h3⟩ := hv.ok rfl (by show f2 l + 8 ≤ n; unfold f2; omega)
    exact ⟨h1, by rw [h2]; show f2 l + 8 = f3 l; unfold f3; rw [g]; rfl, h3⟩
  exact ⟨fun e => by omega, fun e => by omega, fun _ => h.o0 (by omega), h.al, hl, h.ol, fun e _ => h.a1 e (by omega), fun e _ => by rw [(H e).1]; unfold rdR; rw [g]; rfl, fun _ e => by omega, fun e1 _ => ⟨(H e1).2.2, (H e1).2.1⟩⟩
theorem RdI.read2 (h : RdI l 2 a b o k sh) (hn : n = tolC l) (g : gO l = true) (hv : NmV l n k 8 sh v k' sh') : RdI l 3 a b v k' sh' := by
  have hl := hv.lt
  rw [two64_256] at hl
  have H : atL l 30 2 = ndL l → v = atL l (f3 l) 8 ∧ k' = f4 l ∧ sh' = false := fun e1 => by
    obtain ⟨rfl, rfl⟩ := h.pos e1 (nd_O g)
    have hf := nd_fits hn e1 (nd_O g)
    rw [g] at hf
    have e8 : q8 true = 8 := rfl
    rw [e8] at hf
    obtain ⟨h1, h2, h3⟩ := hv.ok rfl (by show f3 l + 8 ≤ n; unfold f3 f2; omega)
    exact ⟨h1, by rw [h2]; show f3 l + 8 = f4 l; unfold f4; rw [g]; rfl, h3⟩
  exact ⟨fun e => by omega, fun e => by omega, fun e => by omega, h.al, h.bl, hl, fun e _ => h.a1 e (by omega), fun e _ => h.b1 e (by omega), fun e _ => by rw [(H e).1]; unfold rdR; rw [g]; rfl, fun e1 _ => ⟨(H e1).2.2, (H e1).2.1⟩⟩
theorem RdI.done_k (h : RdI l 3 a b o k sh) (g : gD l = false) (e : atL l 30 2 = ndL l) : (⟨⟨(atL l 10 2 : Nat), st0, atL l 16 4, b, a, nmOf ((l.drop 46).take (atL l 28 2))⟩, atL l 34 2, o⟩ : Rc) = rdR l := by
  rw [h.a1 e (by omega), h.b1 e (by omega), h.o1 e (by omega)]
  unfold rdR
  rw [g]
  rfl
theorem RdI.done_r (h : RdI l 3 a b o k sh) (hn : n = tolC l) (g : gD l = true) (hv : NmV l n k 4 sh v k' sh') (e : atL l 30 2 = ndL l) : (⟨⟨(atL l 10 2 : Nat), st0, atL l 16 4, b, a, nmOf ((l.drop 46).take (atL l 28 2))⟩, v, o⟩ : Rc) = rdR l := by
  obtain ⟨rfl, rfl⟩ := h.pos e (nd_D g)
  have hf := nd_fits hn e (nd_D g)
  rw [g] at hf
  have e4 : q4 true = 4 := rfl
  rw [e4] at hf
  obtain ⟨h1, _, _⟩ := hv.ok rfl (by show f4 l + 4 ≤ n; unfold f4 f3 f2; omega)
  rw [h.a1 e (by omega), h.b1 e (by omega), h.o1 e (by omega), h1]
  unfold rdR
  rw [g]
  rfl
end
def rcA (m sm pk sz : Nat) (nm : ByteArray) (d o : Nat) : Array Value := #[.int .i64 m, .int .i64 0, .int .i64 0, .int .i64 0, .int .i64 0, .int .i64 0, .int .i64 0, .int .u32 sm, .int .u64 pk, .int .u64 sz, .string nm, .int .u32 d, .int .u64 o]
theorem RdSt.bytesA {w W : World} {T : TypeId} {H : Array Value} {p : Nat} {A : Option Addr} {n c : Nat} {l : List F} {k : Nat} (h : RdSt w W T H p A n c l k) (s : Nat) (z : Int) (hz : z = (s : Int)) (hn : n ≤ 1000000) :
    Calls Tryd.prog 51 #[.pointer (some ⟨p, 0, none⟩), .int .i64 z] W fun e w' => ∃ A' m' c' k' sh', e = .returned (.slice A' m' c') ∧ Rdr w' p A n c l k' sh' ∧ Out p (p + 1) W w' ∧ (k + s ≤ n → k' = k + s ∧ sh' = false) := by
  subst hz
  have hle := h.rd.le
  by_cases hg : k + s ≤ n
  · refine (Bytes_ok h.rd s hg (by omega)).mono ?_
    rintro e w' ⟨A', c', rfl, hown, hr, ho⟩
    exact ⟨A', s, c', _, _, rfl, hr, ho, fun _ => ⟨rfl, rfl⟩⟩
  · refine (Bytes_no h.rd s (.inr (by omega))).mono ?_
    rintro e w' ⟨A', c', rfl, hown, hr, ho⟩
    exact ⟨A', 0, c', _, _, rfl, hr, ho, fun e => absurd e hg⟩
theorem RdSt.toP {w W W' : World} {H : Array Value} {p : Nat} {A : Option Addr} {n c : Nat} {l : List F} {k k' : Nat} {sh' : Bool} (h : RdSt w W 29 H p A n c l k) (hr : Rdr W' p A n c l k' sh') (ho : Out p (p + 1) W W') :
    RdP w (W'.alloc (.cells #[.pointer (some ⟨w.heap.size, 9, none⟩), .pointer (some ⟨w.heap.size, 8, none⟩), .pointer (some ⟨w.heap.size, 12, none⟩)] 98)) H p A n c l k' sh' W'.heap.size := by
  have hlo := h.lo
  have hlt := h.box.lt
  have hb : Below (w.heap.size + 1) W W' := ho.lowAt hlo h.rd.lt
  have ha := (Below.refl W'.heap.size W').alloc (Nat.le_refl _) (.cells #[.pointer (some ⟨w.heap.size, 9, none⟩), .pointer (some ⟨w.heap.size, 8, none⟩), .pointer (some ⟨w.heap.size, 12, none⟩)] 98)
  have hs := ho.size
  have hp := hr.lt
  exact ⟨(h.box.lowB (by omega) hb).below (by omega) ha, hr.below ha, hlo, h.alo, (h.bel.trans (hb.mono (by omega))).trans (ha.mono (by omega)), Blk.new _ _ _, by omega, by omega⟩
theorem beq_dec (x y : Nat) : (((x : Nat) : Int) == ((y : Nat) : Int)) = decide (x = y) := by
  by_cases h : x = y
  · subst h; simp
  · rw [decide_eq_false h, beq_eq_false_iff_ne]; omega
set_option maxHeartbeats 4000000 in
theorem readC_c (A : Option Addr) (n c : Nat) (l : List F) (w : World) (h : Row w A n l) (hn : n = tolC l) (hm : n ≤ 1000000) :
    Calls Tryd.prog 30 #[.slice A n c] w fun e w' => ∃ R : Rc, e = .returned (.tuple #[rcV R, .int .u16 (atL l 14 2 : Nat), .int .u16 (atL l 12 2 : Nat)]) ∧ RcW R ∧ R.h.m = (atL l 10 2 : Nat) ∧ R.h.nm = nmOf ((l.drop 46).take (atL l 28 2)) ∧ R.h.t = st0 ∧ (atL l 30 2 = ndL l → R = rdR l) ∧ Below w.heap.size w w' := by
  have HNT := Lib.hid hn
  have hn46 : 46 + atL l 28 2 ≤ n := by rw [hn]; unfold tolC; omega
  have hS : (((atL l 24 4 : Nat) : Int) == 4294967295) = gS l := beq_dec _ _
  have hP : (((atL l 20 4 : Nat) : Int) == 4294967295) = gP l := beq_dec _ _
  have hO : (((atL l 42 4 : Nat) : Int) == 4294967295) = gO l := beq_dec _ _
  have hD : (((atL l 34 2 : Nat) : Int) == 65535) = gD l := beq_dec _ _
  have HI0 : Hid (∀ k sh, (atL l 30 2 = ndL l → ndL l ≠ 0 → sh = false ∧ k = f1 l) → RdI l 0 (atL l 24 4) (atL l 20 4) (atL l 42 4) k sh) := fun k sh h => by
    have a1 := atL_lt4 l 24
    have a2 := atL_lt4 l 20
    have a3 := atL_lt4 l 42
    exact ⟨fun _ => rfl, fun _ => rfl, fun _ => rfl, by unfold two64; omega, by unfold two64; omega, by unfold two64; omega, fun _ e => by omega, fun _ e => by omega, fun _ e => by omega, h⟩
  have HF1 : Hid (f1 l = 46 + atL l 28 2 + 4) := by show 50 + _ = _; omega
  have HTL : Hid (n = 46 + atL l 28 2 + atL l 30 2) := hn
  have HDK : Hid (∀ a b o k sh, RdI l 3 a b o k sh → gD l = false → atL l 30 2 = ndL l → (⟨⟨(atL l 10 2 : Nat), st0, atL l 16 4, b, a, nmOf ((l.drop 46).take (atL l 28 2))⟩, atL l 34 2, o⟩ : Rc) = rdR l) := fun a b o k sh h => h.done_k
  have HDR : Hid (∀ a b o k sh v k' sh', RdI l 3 a b o k sh → gD l = true → NmV l n k 4 sh v k' sh' → atL l 30 2 = ndL l → (⟨⟨(atL l 10 2 : Nat), st0, atL l 16 4, b, a, nmOf ((l.drop 46).take (atL l 28 2))⟩, v, o⟩ : Rc) = rdR l) := fun a b o k sh v k' sh' h g hv e => h.done_r hn g hv e
  have HNDF : Hid (∀ n, n = tolC l → atL l 30 2 = ndL l → ndL l ≠ 0 → f1 l + 0 ≤ n ∧ 4 ≤ atL l 30 2) := fun n hn e h0 => by
    have := nd_fits hn e h0
    have e4 : ndL l = q8 (gS l) + q8 (gP l) + q8 (gO l) + q4 (gD l) + 4 := by
      unfold ndL ndG at h0 ⊢
      split
      · rename_i h1; rw [if_pos h1] at h0; exact absurd rfl h0
      · rfl
    omega
  have HW : Hid (∀ (a b o d : Nat), a < two64 → b < two64 → o < two64 → d < 4294967296 → RcW ⟨⟨(atL l 10 2 : Nat), st0, atL l 16 4, b, a, nmOf ((l.drop 46).take (atL l 28 2))⟩, d, o⟩) := fun a b o d h1 h2 h3 h4 =>
    ⟨⟨wfI _ (by have := atL_lt2 l 10; omega), (show StW st0 from ⟨by decide, by decide, by decide, by decide, by decide, by decide⟩), atL_lt4 l 16, h2, h1⟩, h4, h3⟩
  clear hn
  have b10 := atL_lt2 l 10
  have b12 := atL_lt2 l 12
  have b14 := atL_lt2 l 14
  have b16 := atL_lt4 l 16
  have b28 := atL_lt2 l 28
  have b34 := atL_lt2 l 34
  have H := Lib.hid h
  clear h
  have hSN : strB ((l.drop 46).take (atL l 28 2)) = S (nmOf ((l.drop 46).take (atL l 28 2))) := strB_S (nmOf ((l.drop 46).take (atL l 28 2)))
  generalize Fa10 : atL l 10 2 = a10 at *
  have Ea10 := Lib.hid Fa10
  clear Fa10
  generalize Fa12 : atL l 12 2 = a12 at *
  have Ea12 := Lib.hid Fa12
  clear Fa12
  generalize Fa14 : atL l 14 2 = a14 at *
  have Ea14 := Lib.hid Fa14
  clear Fa14
  generalize Fa16 : atL l 16 4 = a16 at *
  have Ea16 := Lib.hid Fa16
  clear Fa16
  generalize Fa20 : atL l 20 4 = a20 at *
  have Ea20 := Lib.hid Fa20
  clear Fa20
  generalize Fa24 : atL l 24 4 = a24 at *
  have Ea24 := Lib.hid Fa24
  clear Fa24
  generalize Fk1 : atL l 28 2 = k1 at *
  have Ek1 := Lib.hid Fk1
  clear Fk1
  generalize Fa34 : atL l 34 2 = a34 at *
  have Ea34 := Lib.hid Fa34
  clear Fa34
  generalize Fa42 : atL l 42 4 = a42 at *
  have Ea42 := Lib.hid Fa42
  clear Fa42
  generalize hnm : nmOf ((l.drop 46).take k1) = nm at *
  have HNM := Lib.hid hSN
  clear hSN hnm
  generalize atL l 30 2 = k2 at *
  have u10 : IntKind.i64.wrap (a10 : Int) = (a10 : Int) := IntWalk.i64_in _ (by omega)
  have u12 : IntKind.u16.wrap (a12 : Int) = (a12 : Int) := by show (a12 : Int) % 65536 = _; omega
  have u14 : IntKind.u16.wrap (a14 : Int) = (a14 : Int) := by show (a14 : Int) % 65536 = _; omega
  have u16 : IntKind.u32.wrap (a16 : Int) = (a16 : Int) := by show (a16 : Int) % 4294967296 = _; omega
  have u34 : IntKind.u32.wrap (a34 : Int) = (a34 : Int) := by show (a34 : Int) % 4294967296 = _; omega
  have u28 : IntKind.i64.wrap (k1 : Int) = (k1 : Int) := IntWalk.i64_in _ (by omega)
  have HS := Lib.hid hS
  have HP := Lib.hid hP
  have HO := Lib.hid hO
  have HD := Lib.hid hD
  clear hS hP hO hD
  go_enter Tryd.func30, Tryd.ntmps30
  go_wp2_with fail
  refine (Read_d A n c l _ (H.out.alloc _) (by omega)).mono ?_
  rintro e W1 ⟨p, A1, c1, rfl, hr, hp, hb, hal⟩
  have R1 : Hid (RdSt w W1 29 (rcA 0 0 0 0 ByteArray.empty 0 0) p A1 n c1 l 0) := by
    refine ⟨(Blk.new w _ _).below (by simp) hb, hr, by simpa using hp, by simpa using hal, ((Below.refl w.heap.size w).alloc (Nat.le_refl _) _).trans (hb.mono (by simp))⟩
  clear hr hp hb hal
  go_wp2_with fail
  refine (R1.out.bytes 10 10 rfl hm (by omega)).mono ?_
  rintro e W2 ⟨A2, c2, rfl, _, r2⟩
  have R2 : Hid (RdSt w W2 _ _ p A1 n c1 l 10) := r2
  clear r2 R1
  go_wp2_with fail
  refine (R2.out.num 2 2 rfl (by omega) (by omega)).mono ?_
  rintro e W3 ⟨rfl, r3⟩
  rw [Ea10.out]
  have R3 : Hid (RdSt w W3 _ _ p A1 n c1 l 12) := r3
  clear r3 R2
  have o0 := (R3.out.box.cell 0).trans rfl
  have f0 := R3.out.box.frozen 0
  have R4 : Hid (RdSt w _ _ (rcA a10 0 0 0 ByteArray.empty 0 0) p A1 n c1 l _) := R3.out.set 0 (.int .i64 (a10 : Nat))
  clear R3
  go_wp2_with fail
  refine (R4.out.num 2 2 rfl (by omega) (by omega)).mono ?_
  rintro e W5 ⟨rfl, r5⟩
  rw [Ea12.out]
  have R5 : Hid (RdSt w W5 _ _ p A1 n c1 l 14) := r5
  clear r5 R4 o0 f0
  go_wp2_with fail
  refine (R5.out.num 2 2 rfl (by omega) (by omega)).mono ?_
  rintro e W6 ⟨rfl, r6⟩
  rw [Ea14.out]
  have R6 : Hid (RdSt w W6 _ _ p A1 n c1 l 16) := r6
  clear r6 R5
  go_wp2_with fail
  refine (R6.out.num 4 4 rfl (by omega) (by omega)).mono ?_
  rintro e W7 ⟨rfl, r7⟩
  rw [Ea16.out]
  have R7 : Hid (RdSt w W7 _ _ p A1 n c1 l 20) := r7
  clear r7 R6
  have o7 := (R7.out.box.cell 7).trans rfl
  have f7 := R7.out.box.frozen 7
  have R8 : Hid (RdSt w _ _ (rcA a10 a16 0 0 ByteArray.empty 0 0) p A1 n c1 l _) := R7.out.set 7 (.int .u32 (a16 : Nat))
  clear R7
  go_wp2_with fail
  refine (R8.out.num 4 4 rfl (by omega) (by omega)).mono ?_
  rintro e W9 ⟨rfl, r9⟩
  rw [Ea20.out]
  have R9 : Hid (RdSt w W9 _ _ p A1 n c1 l 24) := r9
  clear r9 R8 o7 f7
  go_wp2_with fail
  refine (R9.out.num 4 4 rfl (by omega) (by omega)).mono ?_
  rintro e W10 ⟨rfl, r10⟩
  rw [Ea24.out]
  have R10 : Hid (RdSt w W10 _ _ p A1 n c1 l 28) := r10
  clear r10 R9
  have o8 := (R10.out.box.cell 8).trans rfl
  have f8 := R10.out.box.frozen 8
  have R11 : Hid (RdSt w _ _ (rcA a10 a16 a20 0 ByteArray.empty 0 0) p A1 n c1 l _) := R10.out.set 8 (.int .u64 (a20 : Nat))
  clear R10
  have o9 := (R11.out.box.cell 9).trans rfl
  have f9 := R11.out.box.frozen 9
  have R12 : Hid (RdSt w _ _ (rcA a10 a16 a20 a24 ByteArray.empty 0 0) p A1 n c1 l _) := R11.out.set 9 (.int .u64 (a24 : Nat))
  clear R11
  go_wp2_with fail
  refine (R12.out.num 2 2 rfl (by omega) (by omega)).mono ?_
  rintro e W13 ⟨rfl, r13⟩
  rw [Ek1.out]
  have R13 : Hid (RdSt w W13 _ _ p A1 n c1 l 30) := r13
  clear r13 R12 o8 f8 o9 f9
  go_wp2_with fail
  refine (R13.out.bytes 4 4 rfl hm (by omega)).mono ?_
  rintro e W14 ⟨A14, c14, rfl, _, r14⟩
  have R14 : Hid (RdSt w W14 _ _ p A1 n c1 l 34) := r14
  clear r14 R13
  go_wp2_with fail
  refine (R14.out.num 2 2 rfl (by omega) (by omega)).mono ?_
  rintro e W15 ⟨rfl, r15⟩
  rw [Ea34.out]
  have R15 : Hid (RdSt w W15 _ _ p A1 n c1 l 36) := r15
  clear r15 R14
  have o11 := (R15.out.box.cell 11).trans rfl
  have f11 := R15.out.box.frozen 11
  have R16 : Hid (RdSt w _ _ (rcA a10 a16 a20 a24 ByteArray.empty a34 0) p A1 n c1 l _) := R15.out.set 11 (.int .u32 (a34 : Nat))
  clear R15
  go_wp2_with fail
  refine (R16.out.bytes 6 6 rfl hm (by omega)).mono ?_
  rintro e W17 ⟨A17, c17, rfl, _, r17⟩
  have R17 : Hid (RdSt w W17 _ _ p A1 n c1 l 42) := r17
  clear r17 R16 o11 f11
  go_wp2_with fail
  refine (R17.out.num 4 4 rfl (by omega) (by omega)).mono ?_
  rintro e W18 ⟨rfl, r18⟩
  rw [Ea42.out]
  have R18 : Hid (RdSt w W18 _ _ p A1 n c1 l 46) := r18
  clear r18 R17
  have o12 := (R18.out.box.cell 12).trans rfl
  have f12 := R18.out.box.frozen 12
  have R19 : Hid (RdSt w _ _ (rcA a10 a16 a20 a24 ByteArray.empty a34 a42) p A1 n c1 l _) := R18.out.set 12 (.int .u64 (a42 : Nat))
  clear R18
  go_wp2_with fail
  refine (R19.out.bytes k1 _ rfl hm (by omega)).mono ?_
  rintro e W20 ⟨A20, c20, rfl, hr20, r20⟩
  have R20 := Lib.hid r20
  have hcv := run_row_string c20 hr20
  have o10 := (R20.out.box.cell 10).trans rfl
  have f10 := R20.out.box.frozen 10
  rw [HNM.out] at hcv
  have R21 : Hid (RdSt w _ _ (rcA a10 a16 a20 a24 (S nm) a34 a42) p A1 n c1 l (46 + k1)) := R20.out.set 10 (.string (S nm))
  clear r20 hr20 R19 R20 o12 f12
  go_wp2_with fail
  refine (R21.out.bytesA 4 4 rfl hm).mono ?_
  rintro e W22 ⟨A22, m22, c22, k22, s22, rfl, r22, o22, g22⟩
  have P22 := Lib.hid (R21.out.toP r22 o22)
  have G22 := Lib.hid g22
  clear r22 o22 g22 R21 o10 f10 hcv
  go_wp2_with fail
  go_loopw [66] (fun iv wr => ∃ (i a b o k : Nat) (sh : Bool), i ≤ 3 ∧ iv = .int .i64 i ∧ Hid (RdP w wr (rcA a10 a16 b a (S nm) a34 o) p A1 n c1 l k sh W22.heap.size) ∧ Hid (RdI l i a b o k sh)) (fun iv _ => 3 - (intOf iv).toNat)
  case atStart => exact ⟨0, a24, a20, a42, k22, s22, by omega, rfl, P22, HI0.out _ _ (fun e1 e2 => by
    have h1 := (HNDF.out n HNT.out e1 e2).2
    have h2 := HTL.out
    obtain ⟨h3, h4⟩ := G22.out (by omega)
    exact ⟨h4, by rw [h3, HF1.out]⟩)⟩
  case round =>
    clear P22 G22 HI0 HNDF
    obtain ⟨i, a, b, o, k, sh, hi3, rfl, hR, hI⟩ := hrel
    by_cases hlt : i < 3
    · have hlti : (i : Int) < 3 := by omega
      have hi0 : (0 : Int) ≤ (i : Int) := by omega
      rcases (show i = 0 ∨ i = 1 ∨ i = 2 by omega) with hi | hi | hi
      · have IX : Hid (RdI l 0 a b o k sh) := by
          have := hI.out
          rw [hi] at this
          exact this
        have HII := Lib.hid hi
        have e0 : a = a24 := (IX.out.a0 (by omega)).trans Ea24.out
        have x0 : wr.cell? ⟨W22.heap.size, i, none⟩ = some (.pointer (some ⟨w.heap.size, 9, none⟩)) := by rw [hi]; exact (hR.out.ptr.cell 0).trans rfl
        have xc := (hR.out.box.cell 9).trans (show _ = some (Value.int .u64 (a : Nat)) from rfl)
        have bq : ((a : Int) == 4294967295) = gS l := by rw [e0]; exact HS.out
        clear hI hi e0
        cases hg : gS l with
        | false =>
          rw [hg] at bq
          have J : Hid (RdI l (i + 1) a b o k sh) := by unfold Hid; rw [HII.out]; exact IX.out.keep0 hg
          clear hg IX
          go_wp2
          go_roundw
          case rel => exact ⟨i + 1, a, b, o, k, sh, by omega, by go_num, hR, J⟩
          case measure => simp [intOf]; omega
        | true =>
          rw [hg] at bq
          have HGG := Lib.hid hg
          clear hg
          go_wp2_with fail
          refine (hR.out.num 8 8 rfl (by omega)).mono ?_
          rintro e W30 ⟨v, k', sh', rfl, r30, hv⟩
          have J : Hid (RdI l (i + 1) v b o k' sh') := by unfold Hid; rw [HII.out]; exact IX.out.read0 HNT.out HGG.out hv
          have xc := (r30.box.cell 9).trans (show _ = some (Value.int .u64 (a : Nat)) from rfl)
          have xf := r30.box.frozen 9
          have R31 : Hid (RdP w _ (rcA a10 a16 b v (S nm) a34 o) p A1 n c1 l k' sh' W22.heap.size) := r30.set 9 (.int .u64 (v : Nat))
          clear r30 hv IX hR
          go_wp2
          go_roundw
          case rel => exact ⟨i + 1, v, b, o, k', sh', by omega, by go_num, R31, J⟩
          case measure => simp [intOf]; omega
      · have IX : Hid (RdI l 1 a b o k sh) := by
          have := hI.out
          rw [hi] at this
          exact this
        have HII := Lib.hid hi
        have e0 : b = a20 := (IX.out.b0 (by omega)).trans Ea20.out
        have x0 : wr.cell? ⟨W22.heap.size, i, none⟩ = some (.pointer (some ⟨w.heap.size, 8, none⟩)) := by rw [hi]; exact (hR.out.ptr.cell 1).trans rfl
        have xc := (hR.out.box.cell 8).trans (show _ = some (Value.int .u64 (b : Nat)) from rfl)
        have bq : ((b : Int) == 4294967295) = gP l := by rw [e0]; exact HP.out
        clear hI hi e0
        cases hg : gP l with
        | false =>
          rw [hg] at bq
          have J : Hid (RdI l (i + 1) a b o k sh) := by unfold Hid; rw [HII.out]; exact IX.out.keep1 hg
          clear hg IX
          go_wp2
          go_roundw
          case rel => exact ⟨i + 1, a, b, o, k, sh, by omega, by go_num, hR, J⟩
          case measure => simp [intOf]; omega
        | true =>
          rw [hg] at bq
          have HGG := Lib.hid hg
          clear hg
          go_wp2_with fail
          refine (hR.out.num 8 8 rfl (by omega)).mono ?_
          rintro e W30 ⟨v, k', sh', rfl, r30, hv⟩
          have J : Hid (RdI l (i + 1) a v o k' sh') := by unfold Hid; rw [HII.out]; exact IX.out.read1 HNT.out HGG.out hv
          have xc := (r30.box.cell 8).trans (show _ = some (Value.int .u64 (b : Nat)) from rfl)
          have xf := r30.box.frozen 8
          have R31 : Hid (RdP w _ (rcA a10 a16 v a (S nm) a34 o) p A1 n c1 l k' sh' W22.heap.size) := r30.set 8 (.int .u64 (v : Nat))
          clear r30 hv IX hR
          go_wp2
          go_roundw
          case rel => exact ⟨i + 1, a, v, o, k', sh', by omega, by go_num, R31, J⟩
          case measure => simp [intOf]; omega
      · have IX : Hid (RdI l 2 a b o k sh) := by
          have := hI.out
          rw [hi] at this
          exact this
        have HII := Lib.hid hi
        have e0 : o = a42 := (IX.out.o0 (by omega)).trans Ea42.out
        have x0 : wr.cell? ⟨W22.heap.size, i, none⟩ = some (.pointer (some ⟨w.heap.size, 12, none⟩)) := by rw [hi]; exact (hR.out.ptr.cell 2).trans rfl
        have xc := (hR.out.box.cell 12).trans (show _ = some (Value.int .u64 (o : Nat)) from rfl)
        have bq : ((o : Int) == 4294967295) = gO l := by rw [e0]; exact HO.out
        clear hI hi e0
        cases hg : gO l with
        | false =>
          rw [hg] at bq
          have J : Hid (RdI l (i + 1) a b o k sh) := by unfold Hid; rw [HII.out]; exact IX.out.keep2 hg
          clear hg IX
          go_wp2
          go_roundw
          case rel => exact ⟨i + 1, a, b, o, k, sh, by omega, by go_num, hR, J⟩
          case measure => simp [intOf]; omega
        | true =>
          rw [hg] at bq
          have HGG := Lib.hid hg
          clear hg
          go_wp2_with fail
          refine (hR.out.num 8 8 rfl (by omega)).mono ?_
          rintro e W30 ⟨v, k', sh', rfl, r30, hv⟩
          have J : Hid (RdI l (i + 1) a b v k' sh') := by unfold Hid; rw [HII.out]; exact IX.out.read2 HNT.out HGG.out hv
          have xc := (r30.box.cell 12).trans (show _ = some (Value.int .u64 (o : Nat)) from rfl)
          have xf := r30.box.frozen 12
          have R31 : Hid (RdP w _ (rcA a10 a16 b a (S nm) a34 v) p A1 n c1 l k' sh' W22.heap.size) := r30.set 12 (.int .u64 (v : Nat))
          clear r30 hv IX hR
          go_wp2
          go_roundw
          case rel => exact ⟨i + 1, a, b, v, k', sh', by omega, by go_num, R31, J⟩
          case measure => simp [intOf]; omega
    · have hi : i = 3 := by omega
      have hlti : ¬ (i : Int) < 3 := by omega
      have I3 : Hid (RdI l 3 a b o k sh) := by
        have := hI.out
        rw [hi] at this
        exact this
      have al := I3.out.al
      have bl := I3.out.bl
      have ol := I3.out.ol
      unfold two64 at al bl ol
      clear hI hi hi3 hlt
      have o11 := (hR.out.box.cell 11).trans (show _ = some (Value.int .u32 (a34 : Nat)) from rfl)
      have b11 := HD.out
      cases hg : gD l with
      | false =>
        rw [hg] at b11
        have t1 := ld_rc hR.out.box rfl
        have t2 := st_rc hR.out.box rfl (rcA a10 a16 b a (S nm) a34 o) rfl (by simp [rcA, Value.oneCell'])
        have t3 := ld_rc (hR.out.box.setRow (rcA a10 a16 b a (S nm) a34 o)) rfl
        have HB9 := Lib.hid (below_setRowS hR.out.bel (Nat.le_refl _) (rcA a10 a16 b a (S nm) a34 o))
        have HX := Lib.hid (HDK.out a b o k sh I3.out hg)
        clear I3 hg
        go_wp2_with (first
          | (with_reducible refine wpList_load_var _ _ (by with_unfolding_all rfl) t1 ?_)
          | (with_reducible refine wpList_store_var _ _ _ (by with_unfolding_all rfl) (by with_unfolding_all rfl) t2 ?_))
        refine bodyPost_ret (v := .tuple #[.agg (rcA a10 a16 b a (S nm) a34 o), .int .u16 (a14 : Nat), .int .u16 (a12 : Nat)]) ?_ rfl ⟨⟨⟨(a10 : Int), st0, a16, b, a, nm⟩, a34, o⟩, rfl, HW.out a b o a34 al bl ol (by omega), rfl, rfl, rfl, HX.out, HB9.out⟩
        rw [results_cell_tt rfl]
        simp [asAddr, Result.andThen, t3]
      | true =>
        rw [hg] at b11
        go_wp2_with fail
        refine (hR.out.num 4 4 rfl (by omega)).mono ?_
        rintro e W40 ⟨v, k', sh', rfl, r40, hv⟩
        have hvl : v < 4294967296 := hv.lt
        have uv : IntKind.u32.wrap (v : Int) = (v : Int) := by show (v : Int) % 4294967296 = _; omega
        have o11 := (r40.box.cell 11).trans (show _ = some (Value.int .u32 (a34 : Nat)) from rfl)
        have f11 := r40.box.frozen 11
        have R41 : Hid (RdP w _ (rcA a10 a16 b a (S nm) v o) p A1 n c1 l k' sh' W22.heap.size) := r40.set 11 (.int .u32 (v : Nat))
        have HX := Lib.hid (HDR.out a b o k sh v k' sh' I3.out hg hv)
        clear r40 hv I3 hg hR
        have t1 := ld_rc R41.out.box rfl
        have t2 := st_rc R41.out.box rfl (rcA a10 a16 b a (S nm) v o) rfl (by simp [rcA, Value.oneCell'])
        have t3 := ld_rc (R41.out.box.setRow (rcA a10 a16 b a (S nm) v o)) rfl
        have HB9 := Lib.hid (below_setRowS R41.out.bel (Nat.le_refl _) (rcA a10 a16 b a (S nm) v o))
        go_wp2_with (first
          | (with_reducible refine wpList_load_var _ _ (by with_unfolding_all rfl) t1 ?_)
          | (with_reducible refine wpList_store_var _ _ _ (by with_unfolding_all rfl) (by with_unfolding_all rfl) t2 ?_))
        refine bodyPost_ret (v := .tuple #[.agg (rcA a10 a16 b a (S nm) v o), .int .u16 (a14 : Nat), .int .u16 (a12 : Nat)]) ?_ rfl ⟨⟨⟨(a10 : Int), st0, a16, b, a, nm⟩, v, o⟩, rfl, HW.out a b o v al bl ol hvl, rfl, rfl, rfl, HX.out, HB9.out⟩
        rw [results_cell_tt rfl]
        simp [asAddr, Result.andThen, t3]
end Go.Proofs.YtacllgglpjdobaaDoor
