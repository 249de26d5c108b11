/-
  THE CONTRACTS OF the unpacker's run, lengths. No conditions.
  THE CONTRACTS OF the unpacker's lengths, lengthCodes. No conditions.
  THE CONTRACT OF the unpacker's lengthCodes. No conditions.
  THE CONTRACTS OF the unpacker's dynamicCodes, block. No conditions.
-/
import Derived.Test.YtldgdofefcehnaaGreatDoorInfG
import Derived.Test.YtldgdofefcehnaaGreatDoorSym
namespace Go.Proofs.YtldgdofefcehnaaGreatDoor
section
open Go.RowKit
set_option maxRecDepth 100000
set_option linter.unusedVariables false
def Apt (p r : Nat) (a : Option Nat) (B : Option Addr) : Prop := ∀ b o, B = some ⟨b, o, none⟩ → b ≠ p ∧ b ≠ r ∧ a ≠ some b
theorem UOut.irow {w w' : World} {p r n : Nat} {a b : Option Nat} {B : Option Addr} {k : IntKind} {l : List Int} (h : UOut p r a b w w') (hr : IRow w B n k l) (hB : Apt p r a B) : IRow w' B n k l := by
 refine ⟨hr.len, hr.max, fun hn => ?_, hr.wf⟩
 obtain ⟨b', o, e, hl, hc⟩ := hr.cells hn
 obtain ⟨h1, h2, h3⟩ := hB b' o e
 refine ⟨b', o, e, Nat.lt_of_lt_of_le hl h.size, fun i hi => ?_⟩
 rw [World.cell?_of_block (a := ⟨b', o + i, none⟩) (h.block b' hl h1 h2 h3)]
 exact hc i hi
section
variable {w : World} {H p r : Nat} {RA : Option Addr} {len rc : Nat} {l : List F} {A : Option Addr} {n c : Nat} {u : Un} {m : Nat} {x : Value}
theorem num_c (h : UnP w H p r RA len rc l A n c u m x) (s : Nat) (hs : s ≤ 32) :
  Calls Tryz.prog 100 #[.pointer (some ⟨p, 0, none⟩), .int .i64 s] w fun e w' =>
   (∃ k, numF l s u = .error k ∧ e = .panicked [{ v := .iface 33 (.int .i64 k), recovered := false }] ∧ UOut p r (Value.slice A n c).ownBlock (Value.slice A n c).ownBlock w w') ∨
   (∃ v u', numF l s u = .ok (v, u') ∧ v < 2 ^ s ∧ e = .returned (.int .i64 (v : Nat)) ∧ UnP w' H p r RA len rc l A n c u' m x ∧ UOut p r (Value.slice A n c).ownBlock (Value.slice A n c).ownBlock w w') := by
 cases hf : numF l s u with
 | error k => exact (num_no h s hs hf).mono fun e w' ⟨h1, h2⟩ => .inl ⟨k, rfl, h1, h2⟩
 | ok y =>
  obtain ⟨v, u'⟩ := y
  have hv : v < 2 ^ s := by
   obtain ⟨_, e⟩ := numF_inv hf
   injection e with e _
   rw [e]
   exact numB_lt _ _ _
  exact (num_ok h s hs hf).mono fun e w' ⟨h1, h2, h3⟩ => .inr ⟨v, u', rfl, hv, h1, h2, h3⟩
set_option maxHeartbeats 2000000 in
theorem run_c {q k cb : Nat} {cl row : List Int} {B : Option Addr} (h : UnP w H p r RA len rc l A n c u m x) (ht : Tbl w p r (Value.slice A n c).ownBlock q cl) (hrow : IRow w B k .i64 row) (hB : Apt p r (Value.slice A n c).ownBlock B) (hk : k ≤ 1000000) :
  Calls Tryz.prog 174 #[.pointer (some ⟨p, 0, none⟩), .pointer (some ⟨q, 0, none⟩), .slice B k cb] w fun e w' =>
   (∃ k, runF l cl row u = .error k ∧ e = .panicked [{ v := .iface 33 (.int .i64 k), recovered := false }] ∧ UOut p r (Value.slice A n c).ownBlock (Value.slice A n c).ownBlock w w') ∨
   (∃ y t u', runF l cl row u = .ok ((y, t), u') ∧ t ≤ 200 ∧ e = .returned (.tuple #[.int .i64 y, .int .i64 (t : Nat)]) ∧ UnP w' H p r RA len rc l A n c u' m x ∧ UOut p r (Value.slice A n c).ownBlock (Value.slice A n c).ownBlock w w') := by
 have HS := Lib.hid (sym_c h ht)
 have HB := Lib.hid hB
 have HR := Lib.hid hrow
 have hlen := ht.len
 clear h ht hB hrow
 go_enter Tryz.func174, Tryz.ntmps174
 go_wp2_with fail
 refine HS.out.mono ?_
 rintro e w1 (⟨k2, g1, rfl, g2⟩ | ⟨s, u1, g1, hs, rfl, g2, g3⟩)
 ·have HF : Hid (runF l cl row u = .error k2) := by unfold Hid runF; rw [g1]; rfl
  have HO := Lib.hid g2
  clear g1 g2
  go_wp2
  exact ⟨rfl, .inl ⟨k2, HF.out, rfl, HO.out⟩⟩
 ·have HU := Lib.hid g2
  have HO := Lib.hid g3
  have HF := Lib.hid g1
  have hs288 : s < 288 := by omega
  clear g1 g2 g3 hs hlen
  by_cases e16 : s = 16
  ·subst e16
   by_cases hk0 : k = 0
   ·subst hk0
    have HE : Hid (runF l cl row u = .error 34) := by
     unfold Hid runF
     rw [HF.out, bnd_ok, if_pos rfl, if_pos HR.out.len]
    go_wp2
    exact ⟨rfl, .inl ⟨34, HE.out, rfl, HO.out⟩⟩
   ·have hk1 : ((k : Int) == 0) = false := by rw [beq_eq_false_iff_ne]; omega
    have HE : Hid (runF l cl row u = bnd (numF l 2 u1) fun q => .ok ((gi row (k - 1), 3 + q.1), q.2)) := by
     unfold Hid runF
     rw [HF.out, bnd_ok, if_pos rfl, if_neg (by rw [HR.out.len]; exact hk0), HR.out.len]
    have hrow1 := HO.out.irow HR.out HB.out
    obtain ⟨b1, o1, rfl, hb1, q1⟩ := hrow1.at_ (i := k - 1) (by omega)
    have hsub : IntKind.i64.wrap ((k : Int) - 1) = ((k - 1 : Nat) : Int) := (IntWalk.i64_in _ (by omega)).trans (by omega)
    have hin : ((k - 1 : Nat) : Int) < (k : Int) := by omega
    have hin0 : (0 : Int) ≤ ((k - 1 : Nat) : Int) := by omega
    obtain ⟨y, hy⟩ : ∃ y, y = gi row (k - 1) := ⟨_, rfl⟩
    obtain ⟨z, hz⟩ : ∃ z, z = k - 1 := ⟨_, rfl⟩
    rw [← hy] at q1 HE
    rw [← hz] at q1 hsub hin hin0
    have HN := Lib.hid (num_c (HU.out.drewN 1) 2 (by omega))
    have hap := HB.out b1 o1 rfl
    clear hrow1 hy hz hk0
    cases hnf : numF l 2 u1 with
    | error k2 =>
     have HE2 : Hid (runF l cl row u = .error k2) := by unfold Hid; rw [HE.out, hnf]; rfl
     have HN2 := Lib.hid (num_no (HU.out.drewN 1) 2 (by omega) hnf)
     clear hnf HN
     go_wp2
     go_region_dies
     all_goals
      refine HN2.out.mono ?_
      rintro e w2 ⟨rfl, hO2⟩
      have HO2 := Lib.hid ((HO.out.drewN 1).trans hO2)
      clear hO2
      go_wp2
      exact ⟨rfl, .inl ⟨k2, HE2.out, rfl, HO2.out⟩⟩
    | ok v =>
     obtain ⟨v, u2⟩ := v
     have HE2 : Hid (runF l cl row u = .ok ((y, 3 + v), u2)) := by unfold Hid; rw [HE.out, hnf]; rfl
     have HN2 := Lib.hid (num_ok (HU.out.drewN 1) 2 (by omega) hnf)
     have hv : v < 4 := by
      obtain ⟨_, e⟩ := numF_inv hnf
      injection e with e _
      rw [e]
      exact numB_lt _ _ 2
     have hsum : IntKind.i64.wrap (3 + (v : Int)) = ((3 + v : Nat) : Int) := (IntWalk.i64_in _ (by omega)).trans (by omega)
     clear hnf HN
     go_wp2
     go_region_held3 (fun w' => w'.cell? ⟨b1, o1 + z, none⟩ = some (.int .i64 y))
      (first
       | go_keep
       | (rw [World.cell?_of_block (a := ⟨b1, o1 + z, none⟩) (hO2.block b1 (by exact hb1) hap.1 hap.2.1 hap.2.2)]; assumption))
      ((go_at_call 100; refine HN2.out.mono ?_; rintro e w2 ⟨rfl, hU2, hO2⟩))
     have HO2 := Lib.hid ((HO.out.drewN 1).trans hO2)
     have HU2 := Lib.hid hU2
     clear hO2 hU2
     go_wp2
     go_ret2
     exact .inr ⟨y, 3 + v, u2, HE2.out, by omega, rfl, HU2.out, HO2.out⟩
  ·have n16 : ((s : Int) == 16) = false := by rw [beq_eq_false_iff_ne]; omega
   by_cases e17 : s = 17
   ·subst e17
    have HE : Hid (runF l cl row u = bnd (numF l 3 u1) fun q => .ok ((0, 3 + q.1), q.2)) := by
     unfold Hid runF
     rw [HF.out]
     rfl
    have HN := Lib.hid (num_c HU.out 3 (by omega))
    clear e16
    go_wp2_with fail
    refine HN.out.mono ?_
    rintro e w2 (⟨k2, g1, rfl, g2⟩ | ⟨v, u2, g1, hv, rfl, g2, g3⟩)
    ·have HE2 : Hid (runF l cl row u = .error k2) := by unfold Hid; rw [HE.out, g1]; rfl
     have HO2 := Lib.hid (HO.out.trans g2)
     clear g1 g2
     go_wp2
     exact ⟨rfl, .inl ⟨k2, HE2.out, rfl, HO2.out⟩⟩
    ·have HE2 : Hid (runF l cl row u = .ok ((0, 3 + v), u2)) := by unfold Hid; rw [HE.out, g1]; rfl
     have HO2 := Lib.hid (HO.out.trans g3)
     have HU2 := Lib.hid g2
     have hsum : Hid (3 + (v : Int) = ((3 + v : Nat) : Int)) := by unfold Hid; omega
     have hv8 : v < 8 := hv
     clear g1 g2 g3 hv
     go_wp2
     go_ret2
     rw [hsum.out]
     exact .inr ⟨0, 3 + v, u2, HE2.out, by omega, rfl, HU2.out, HO2.out⟩
   ·have n17 : ((s : Int) == 17) = false := by rw [beq_eq_false_iff_ne]; omega
    by_cases e18 : s = 18
    ·subst e18
     have HE : Hid (runF l cl row u = bnd (numF l 7 u1) fun q => .ok ((0, 11 + q.1), q.2)) := by
      unfold Hid runF
      rw [HF.out]
      rfl
     have HN := Lib.hid (num_c HU.out 7 (by omega))
     clear e16 e17
     go_wp2_with fail
     refine HN.out.mono ?_
     rintro e w2 (⟨k2, g1, rfl, g2⟩ | ⟨v, u2, g1, hv, rfl, g2, g3⟩)
     ·have HE2 : Hid (runF l cl row u = .error k2) := by unfold Hid; rw [HE.out, g1]; rfl
      have HO2 := Lib.hid (HO.out.trans g2)
      clear g1 g2
      go_wp2
      exact ⟨rfl, .inl ⟨k2, HE2.out, rfl, HO2.out⟩⟩
     ·have HE2 : Hid (runF l cl row u = .ok ((0, 11 + v), u2)) := by unfold Hid; rw [HE.out, g1]; rfl
      have HO2 := Lib.hid (HO.out.trans g3)
      have HU2 := Lib.hid g2
      have hsum : Hid (11 + (v : Int) = ((11 + v : Nat) : Int)) := by unfold Hid; omega
      have hv8 : v < 128 := hv
      clear g1 g2 g3 hv
      go_wp2
      go_ret2
      rw [hsum.out]
      exact .inr ⟨0, 11 + v, u2, HE2.out, by omega, rfl, HU2.out, HO2.out⟩
    ·have n18 : ((s : Int) == 18) = false := by rw [beq_eq_false_iff_ne]; omega
     have HE : Hid (runF l cl row u = .ok (((s : Nat), 1), u1)) := by
      unfold Hid runF
      rw [HF.out, bnd_ok, if_neg e16, if_neg e17, if_neg e18]
     clear e16 e17 e18
     go_wp2
     go_ret2
     exact .inr ⟨(s : Nat), 1, u1, HE.out, by omega, rfl, HU.out, HO.out⟩
end
end
section
open Go.RowKit
set_option maxRecDepth 100000
set_option linter.unusedVariables false
def Small (l : List Int) : Prop := ∀ i, i < l.length → 0 ≤ gi l i ∧ gi l i ≤ 300
theorem Small.append_rep {l : List Int} (h : Small l) {y : Int} (hy : 0 ≤ y ∧ y ≤ 300) (t : Nat) : Small (l ++ List.replicate t y) := by
 intro i hi
 by_cases e : i < l.length
 ·have e2 : gi (l ++ List.replicate t y) i = gi l i := by simp [gi, List.getD, List.getElem?_append, e]
  rw [e2]
  exact h i e
 ·rw [List.length_append, List.length_replicate] at hi
  have e2 : gi (l ++ List.replicate t y) i = y := by simp [gi, List.getD, List.getElem?_append, e, show i - l.length < t by omega]
  rw [e2]
  exact hy
theorem Small.wf {l : List Int} (h : Small l) : ∀ i, i < l.length → (Lit.int .i64 (gi l i)).wf = true := fun i hi => by
 have h1 := h i hi
 rw [show gi l i = (((gi l i).toNat : Nat) : Int) by omega]
 exact wf_nat _ (by omega)
theorem runF_small {l : List F} {c row : List Int} {u : Un} {y : Int} {t : Nat} {u' : Un} (hc : c.length ≤ 288) (hs : Small row) (hb : ∀ s u1, symF l c u = .ok (s, u1) → s < c.length) (h : runF l c row u = .ok ((y, t), u')) : (0 ≤ y ∧ y ≤ 300) ∧ 1 ≤ t := by
 unfold runF at h
 obtain ⟨r, h1, h2⟩ := bnd_inv h
 have hlt := hb r.1 r.2 h1
 by_cases e16 : r.1 = 16
 ·rw [if_pos e16] at h2
  by_cases e0 : row.length = 0
  ·rw [if_pos e0] at h2; cases h2
  ·rw [if_neg e0] at h2
   obtain ⟨q, _, h3⟩ := bnd_inv h2
   injection h3 with h3
   injection h3 with h3 _
   injection h3 with h3 h4
   subst h3 h4
   exact ⟨hs _ (by omega), by omega⟩
 ·rw [if_neg e16] at h2
  by_cases e17 : r.1 = 17
  ·rw [if_pos e17] at h2
   obtain ⟨q, _, h3⟩ := bnd_inv h2
   injection h3 with h3
   injection h3 with h3 _
   injection h3 with h3 h4
   subst h3 h4
   exact ⟨by omega, by omega⟩
  ·rw [if_neg e17] at h2
   by_cases e18 : r.1 = 18
   ·rw [if_pos e18] at h2
    obtain ⟨q, _, h3⟩ := bnd_inv h2
    injection h3 with h3
    injection h3 with h3 _
    injection h3 with h3 h4
    subst h3 h4
    exact ⟨by omega, by omega⟩
   ·rw [if_neg e18] at h2
    injection h2 with h3
    injection h3 with h3 _
    injection h3 with h3 h4
    subst h3 h4
    exact ⟨by omega, by omega⟩
theorem symF_lt {l : List F} {c : List Int} {u : Un} {s : Nat} {u1 : Un} (ha : u.at_ ≤ 8 * l.length) (h : symF l c u = .ok (s, u1)) : s < c.length := by
 obtain ⟨k, h1, _⟩ := symF_inv h
 have h2 := rdF_ok (l := c) (b := rb l) ha
 rw [h1] at h2
 rcases h2.2 with ⟨_, _, _, h3, _⟩ | ⟨h3, _⟩ | ⟨h3, _⟩
 ·exact h3
 ·cases h3
 ·cases h3
section
variable {w : World} {H p r : Nat} {RA : Option Addr} {len rc : Nat} {l : List F} {A : Option Addr} {n c : Nat} {u : Un} {m : Nat} {x : Value}
theorem UnP.at_le (h : UnP w H p r RA len rc l A n c u m x) : u.at_ ≤ 8 * l.length := by rw [h.len_]; exact h.rd.le
theorem own_apt {base k ck : Nat} {B : Option Addr} {e : TypeId} {xs : List Value} {a : Option Nat} {W : World} (h : W.ownsRow base e 1 (.slice B k ck) k xs) (hp : p < base) (hr : r < base) (ha : ∀ g, a = some g → g < base) : Apt p r a B := fun b o e => by
 have := (own_ne h hp) b o e
 have := (own_ne h hr) b o e
 exact ⟨by assumption, by assumption, fun e2 => (own_ne h (ha b e2)) b o e rfl⟩
theorem own_uout {base k : Nat} {v : Value} {e : TypeId} {xs : List Value} {a b : Option Nat} {W W' : World} (h : W.ownsRow base e 1 v k xs) (ho : UOut p r a b W W') (hp : p < base) (hr : r < base) (ha : ∀ g, a = some g → g < base) : W'.ownsRow base e 1 v k xs := by
 refine ⟨h.1, ?_⟩
 rcases h.2 with hn | ⟨g, cap, cur, hv, hbg, hg, rest⟩
 ·exact .inl hn
 ·exact .inr ⟨g, cap, cur, hv, hbg, (ho.block g (Array.getElem?_eq_some_iff.1 hg).1 (by omega) (by omega) (fun e2 => by have := ha g e2; omega)).trans hg, rest⟩
theorem UnP.keepB {w' : World} {T : Nat} (h : UnP w H p r RA len rc l A n c u m x) (hT : H ≤ T) (ha : ∀ g, (Value.slice A n c).ownBlock = some g → g < T) (hb : Below T w w') : UnP w' H p r RA len rc l A n c u m x := by
 have hlo := h.lo
 have hlow := h.low
 have hs := hb.size
 have key : ∀ g t (C : Array Value), Blk w g t C → g < T → Blk w' g t C := fun g t C h1 h2 => by
  unfold Blk at h1 ⊢
  rw [hb.block g h2]
  exact h1
 refine ⟨key _ _ _ h.blk (by omega), ⟨key _ _ _ h.rd.blk (by omega), ⟨⟨h.rd.row.row.1, h.rd.row.row.2.1, fun hn => ?_⟩, h.rd.row.le, h.rd.row.max⟩, h.rd.le, h.rd.ne, h.rd.few⟩, ?_, h.ne, h.lo, h.lor, h.few, Nat.le_trans h.here hs, ⟨by have := h.tabs.size; omega, fun i hi => (hb.cell (p := ⟨0, i, none⟩) (by show 0 < T; omega)).trans (h.tabs.len i hi), fun i hi => (hb.cell (p := ⟨1, i, none⟩) (by show 1 < T; omega)).trans (h.tabs.dist i hi)⟩, h.low⟩
 ·obtain ⟨b, o, e, hbl, hc⟩ := h.rd.row.row.2.2 hn
  have h6 := h.lor b o e
  exact ⟨b, o, e, by omega, fun i hi => (hb.cell (p := ⟨b, o + i, none⟩) (by show b < T; omega)).trans (hc i hi)⟩
 ·refine ⟨h.own.1, ?_⟩
  rcases h.own.2 with hn | ⟨g, cap, cur, hv, hbg, hg, rest⟩
  ·exact .inl hn
  ·exact .inr ⟨g, cap, cur, hv, hbg, (hb.block g (ha g (by rw [hv]; rfl))).trans hg, rest⟩
theorem UOut.thenB {p r : Nat} {a b : Option Nat} {w w' w'' : World} (h : UOut p r a b w w') (hb : Below w.heap.size w' w'') : UOut p r a b w w'' :=
 ⟨hb.os.trans h.os, hb.tape.trans h.tape, hb.output.trans h.output, Nat.le_trans h.size hb.size, fun k hk hp hr ha => (hb.block k hk).trans (h.block k hk hp hr ha), h.nw⟩
set_option maxHeartbeats 4000000 in
theorem lengths_c {q many : Nat} {cl : List Int} (h : UnP w H p r RA len rc l A n c u m x) (ht : Tbl w p r (Value.slice A n c).ownBlock q cl) (hm : many ≤ 1000) (hm1 : 1 ≤ many) :
  Calls Tryz.prog 150 #[.pointer (some ⟨p, 0, none⟩), .pointer (some ⟨q, 0, none⟩), .int .i64 many] w fun e w' =>
   (∃ k, lensF l cl many (many + 1) [] u = .error k ∧ e = .panicked [{ v := .iface 33 (.int .i64 k), recovered := false }] ∧ UOut p r (Value.slice A n c).ownBlock (Value.slice A n c).ownBlock w w') ∨
   (∃ row u' B cb, lensF l cl many (many + 1) [] u = .ok (row, u') ∧ row.length = many ∧ Small row ∧ e = .returned (.slice B many cb) ∧ w'.ownsRow w.heap.size 3 1 (.slice B many cb) many (iC row) ∧ UnP w' H p r RA len rc l A n c u' m x ∧ UOut p r (Value.slice A n c).ownBlock (Value.slice A n c).ownBlock w w') := by
 obtain ⟨i0, hi, hz0, hz1, hz2⟩ := info_parts info_int
 have HH := Lib.hid h
 have HT := Lib.hid ht
 have hlo := h.blk.lt
 have hlr := h.rd.lt
 have hHw := h.here
 have HA : Hid (∀ g, (Value.slice A n c).ownBlock = some g → g < w.heap.size) := fun g hg => (h.own.lt g hg).2
 clear h ht
 go_enter Tryz.func150, Tryz.ntmps150
 go_wp2
 go_loopg [7] (many + 1) (fun gk v wr => ∃ (k : Nat) (B : Option Addr) (cb : Nat) (row : List Int) (uu : Un), v = .slice B k cb ∧ k ≤ many ∧ Hid (many + 1 ≤ gk + k) ∧ Hid (1 ≤ gk) ∧ Hid (Small row) ∧ Hid (wr.ownsRow w.heap.size 3 1 (.slice B k cb) k (iC row)) ∧ Hid (UnP wr H p r RA len rc l A n c uu m x) ∧ Hid (UOut p r (Value.slice A n c).ownBlock (Value.slice A n c).ownBlock w wr) ∧ Hid (lensF l cl many gk row uu = lensF l cl many (many + 1) [] u))
 case atStart => exact ⟨0, none, 0, [], u, rfl, by omega, (by unfold Hid; omega), (by unfold Hid; omega), (fun i hi => absurd hi (by simp)), World.ownsRow_nil _ _ _ _, HH, UOut.refl _ _ _ _, rfl⟩
 case round =>
  obtain ⟨k, B, cb, row, uu, rfl, hk, hgk, hg1, hsm, hown, hU, hO, hF⟩ := hrel
  obtain ⟨f, hf⟩ : ∃ f, gk = f + 1 := ⟨gk - 1, by have := hg1.out; omega⟩
  have hrl : Hid (row.length = k) := by have := hown.out.1; unfold Hid; rw [iC_length] at this; omega
  by_cases hlt : k < many
  ·have hki : (k : Int) < (many : Int) := by omega
   have hrow := IRow.ofOwn hown.out (by have := hsm.out.wf; rwa [hrl.out] at this) (by unfold maxLen; omega)
   have hap := own_apt hown.out hlo hlr HA.out
   have HRUN := Lib.hid (run_c (cb := cb) hU.out (HT.out.step hO.out) hrow hap (by omega))
   have hst : Hid (lensF l cl many gk row uu = bnd (runF l cl row uu) fun r => if many < k + r.1.2 then .error 23 else lensF l cl many f (row ++ List.replicate r.1.2 r.1.1) r.2) := by
    unfold Hid
    rw [hf, lensF, if_neg (by rw [hrl.out]; omega), hrl.out]
   have HS2 : Hid (∀ y t u', runF l cl row uu = .ok ((y, t), u') → (0 ≤ y ∧ y ≤ 300) ∧ 1 ≤ t) := fun y t u' h1 => runF_small HT.out.len hsm.out (fun s u1 h2 => symF_lt hU.out.at_le h2) h1
   have HFF := Lib.hid hf
   clear hrow hap hf
   go_wp2_with fail
   refine HRUN.out.mono ?_
   rintro e w1 (⟨k2, g1, rfl, g2⟩ | ⟨y, t, u1, g1, ht200, rfl, g2, g3⟩)
   ·have HE : Hid (lensF l cl many (many + 1) [] u = .error k2) := by unfold Hid; rw [← hF.out, hst.out, g1]; rfl
    have HO2 := Lib.hid (hO.out.trans g2)
    clear g1 g2
    go_wp2
    exact ⟨rfl, .inl ⟨k2, HE.out, rfl, HO2.out⟩⟩
   ·obtain ⟨hy, ht1⟩ := HS2.out y t u1 g1
    have HY := Lib.hid hy
    have hst2 : Hid (lensF l cl many gk row uu = if many < k + t then .error 23 else lensF l cl many f (row ++ List.replicate t y) u1) := by unfold Hid; rw [hst.out, g1]; rfl
    have HO2 := Lib.hid (hO.out.trans g3)
    have HU2 := Lib.hid g2
    have HOWN2 := Lib.hid (own_uout hown.out g3 hlo hlr HA.out)
    have hsub : Hid ((many : Int) - (k : Int) = ((many - k : Nat) : Int)) := by unfold Hid; omega
    clear g1 g2 g3 hy
    by_cases hbig : many < k + t
    ·have HE : Hid (lensF l cl many (many + 1) [] u = .error 23) := by unfold Hid; rw [← hF.out, hst2.out, if_pos hbig]
     have hcmp : (many : Int) - (k : Int) < (t : Int) := by omega
     go_wp2
     exact ⟨rfl, .inl ⟨23, HE.out, rfl, HO2.out⟩⟩
    ·have hcmp : ¬ (many : Int) - (k : Int) < (t : Int) := by omega
     go_wp2_with fail
     refine (Rep_c y t ht1 (by omega) _ _ _ (by go_simp) rfl).mono ?_
     rintro e w2 ⟨g2, rfl, o2, b2⟩
     have B2 := Lib.hid (belA b2)
     have hw1s : w.heap.size ≤ w1.heap.size := HO2.out.size
     have hw2s : w1.heap.size ≤ w2.heap.size := B2.out.size
     have HOWN3 := Lib.hid (own_below HOWN2.out B2.out)
     have HCL : Hid (∀ j u, (iC (List.replicate t y))[j]? = some u → w2.cell? ((⟨g2, 0, none⟩ : Addr).add j) = some u) := (IRow.ofOwn o2 (by
      intro i hi
      have e : gi (List.replicate t y) i = y := by simp [gi, hi]
      rw [e, show y = ((y.toNat : Nat) : Int) by have := HY.out; omega]
      exact wf_nat _ (by have := HY.out; omega)) (by unfold maxLen; omega)).cellsOf
     have hbase : w.heap.size ≤ w2.heap.size := by omega
     clear o2 b2
     go_wp2_with (at_builtin; refine wpList_append_own _ rfl _ _ 49 rfl w.heap.size 3 i0 (.int .i64 0) 1 8 Tryz.underlying49 hi hz0 hz1 hz2 rfl (by decide) _ _ _ rfl HOWN3.out ⟨g2, 0, none⟩ t t (iC (List.replicate t y)) rfl (by rw [iC_length, List.length_replicate, Nat.mul_one]) HCL.out (iC_one _) (by unfold maxLen; omega) (by omega) hbase ?_; intro v' w3 hown3 hgrow3 hnil3)
     have hB13 : Below w.heap.size w1 w3 := (B2.out.mono hw1s).grown hgrow3 hbase (fun k hk => (HOWN3.out.lt k hk).1)
     have hU3 : Hid (UnP w3 H p r RA len rc l A n c u1 m x) := HU2.out.keepB hHw HA.out hB13
     have hO3 : Hid (UOut p r (Value.slice A n c).ownBlock (Value.slice A n c).ownBlock w w3) := HO2.out.thenB hB13
     have hsm3 : Hid (Small (row ++ List.replicate t y)) := hsm.out.append_rep HY.out t
     obtain ⟨B3, cb3, rfl, _⟩ := own_shape hown3
     have hown4 : Hid (w3.ownsRow w.heap.size 3 1 (.slice B3 (k + t) cb3) (k + t) (iC (row ++ List.replicate t y))) := by unfold Hid; rw [iC_append]; exact hown3
     have hF3 : Hid (lensF l cl many f (row ++ List.replicate t y) u1 = lensF l cl many (many + 1) [] u) := by unfold Hid; rw [← hF.out, hst2.out, if_neg hbig]
     have hkt : k + t ≤ many := by omega
     have hgk3 : Hid (many + 1 ≤ f + (k + t)) := by unfold Hid; have h1 := hgk.out; have h2 := HFF.out; omega
     have hg13 : Hid (1 ≤ f) := by unfold Hid; have h1 := hgk.out; have h2 := HFF.out; omega
     have hfg : Hid (f < gk) := by unfold Hid; have h2 := HFF.out; omega
     clear hown3 hgrow3 hnil3 hB13
     go_wp2
     go_roundg f
     case measure => exact hfg.out
     case rel => exact ⟨k + t, B3, cb3, _, u1, rfl, hkt, hgk3, hg13, hsm3, hown4, hU3, hO3, hF3⟩
  ·obtain rfl : k = many := by omega
   have hE : Hid (lensF l cl k (k + 1) [] u = .ok (row, uu)) := by
    unfold Hid
    rw [← hF.out, hf, lensF, if_pos (by rw [hrl.out]; exact Nat.le_refl _)]
   clear hf
   go_wp2
   go_ret
   exact .inr ⟨row, uu, B, cb, hE.out, hrl.out, hsm.out, rfl, hown.out, hU.out, hO.out⟩
end
end
section
open Go.RowKit
set_option maxRecDepth 100000
set_option linter.unusedVariables false
theorem ordN_at {i : Nat} (h : i < 19) : gi ordL i = ((ordN.getD i 0 : Nat) : Int) ∧ ordN.getD i 0 < 19 := by
 have : ∀ i, i < 19 → gi ordL i = ((ordN.getD i 0 : Nat) : Int) ∧ ordN.getD i 0 < 19 := by decide +kernel
 exact this i h
theorem ordN_drop {i k : Nat} (h : i < k) (hk : k ≤ 19) : (ordN.take k).drop i = ordN.getD i 0 :: (ordN.take k).drop (i + 1) := by
 have : ∀ k, k < 20 → ∀ i, i < k → (ordN.take k).drop i = ordN.getD i 0 :: (ordN.take k).drop (i + 1) := by decide +kernel
 exact this k (by omega) i h
theorem ordN_end (k : Nat) (hk : k ≤ 19) : (ordN.take k).drop k = [] := List.drop_of_length_le (by simp [ordN]; omega)
theorem iC_set (l : List Int) (i : Nat) (v : Int) : (iC l).set i (.int .i64 v) = iC (l.set i v) := by
 unfold iC
 rw [List.map_set]
theorem Small.set {l : List Int} (h : Small l) {v : Int} (hv : 0 ≤ v ∧ v ≤ 300) (i : Nat) : Small (l.set i v) := by
 intro j hj
 rw [List.length_set] at hj
 by_cases e : j = i
 ·subst e
  have e2 : gi (l.set j v) j = v := by simp [gi, hj]
  rw [e2]; exact hv
 ·have e2 : gi (l.set i v) j = gi l j := by simp [gi, List.getD, Ne.symm e]
  rw [e2]; exact h j hj
section
variable {w : World} {H p r : Nat} {RA : Option Addr} {len rc : Nat} {l : List F} {A : Option Addr} {n c : Nat} {u : Un} {m : Nat} {x : Value}
set_option maxHeartbeats 4000000 in
theorem lengthCodes_c {k : Nat} (h : UnP w H p r RA len rc l A n c u m x) (hk : k ≤ 19) :
  Calls Tryz.prog 151 #[.pointer (some ⟨p, 0, none⟩), .int .i64 k] w fun e w' =>
   (∃ z, (ownF l (ordN.take k) (List.replicate 19 0) u = .error z ∨ ∃ own u', ownF l (ordN.take k) (List.replicate 19 0) u = .ok (own, u') ∧ errC own own.length = z ∧ z ≠ 0) ∧ e = .panicked [{ v := .iface 33 (.int .i64 (z : Nat)), recovered := false }] ∧ UOut p r (Value.slice A n c).ownBlock (Value.slice A n c).ownBlock w w') ∨
   (∃ own u' q, ownF l (ordN.take k) (List.replicate 19 0) u = .ok (own, u') ∧ errC own own.length = 0 ∧ e = .returned (.pointer (some ⟨q, 0, none⟩)) ∧ Tbl w' p r (Value.slice A n c).ownBlock q own ∧ UnP w' H p r RA len rc l A n c u' m x ∧ UOut p r (Value.slice A n c).ownBlock (Value.slice A n c).ownBlock w w') := by
 obtain ⟨i0, hi, hz0, hz1, hz2⟩ := info_parts info_int
 have hlo := h.blk.lt
 have hlr := h.rd.lt
 have hHw := h.here
 have HA : Hid (∀ g, (Value.slice A n c).ownBlock = some g → g < w.heap.size) := fun g hg => (h.own.lt g hg).2
 have HH := Lib.hid h
 clear h
 go_enter Tryz.func151, Tryz.ntmps151
 go_wp2_with fail
 refine (Order_c w).mono ?_
 rintro e w1 ⟨rfl, rfl⟩
 have HOR := Lib.hid (ordV_row w)
 have hsz := ordV_size w
 have HB1 := Lib.hid (ordV_below w)
 generalize ordV w = w1 at *
 obtain ⟨go, hgo⟩ : ∃ go, go = w.heap.size := ⟨_, rfl⟩
 rw [← hgo] at HOR ⊢
 have HGO := Lib.hid hgo
 have hgw : go < w1.heap.size := by omega
 have hbs : w.heap.size ≤ w1.heap.size := by omega
 have HSZ := Lib.hid hsz
 clear hgo hsz
 go_wp2_with (at_make; refine wpList_make_full _ rfl _ _ 49 rfl w1.heap.size 3 i0 (.int .i64 0) 1 Tryz.underlying49 hi hz0 hz1 _ _ _ _ 19 rfl rfl rfl rfl (by rw [hz2]; omega) (by unfold maxLen; omega) (Nat.le_refl _) ?_; intro w2 hown2 hgrow2)
 rw [made_iC] at hown2
 have HB2 : Hid (Below w1.heap.size w1 w2) := (Below.refl _ w1).grown hgrow2 (Nat.le_refl _) (fun k hk => by cases hk)
 have HOR2 := Lib.hid (HOR.out.below HB2.out)
 have HB12 : Hid (Below w.heap.size w w2) := HB1.out.trans (HB2.out.mono hbs)
 have HO2 : Hid (UOut p r (Value.slice A n c).ownBlock (Value.slice A n c).ownBlock w w2) := UOut.ofBelow HB12.out
 have HU2 := Lib.hid (HH.out.below HB12.out)
 obtain ⟨gl, hgl⟩ : ∃ gl, gl = w1.heap.size := ⟨_, rfl⟩
 rw [← hgl] at hown2 ⊢
 have hne : go ≠ gl := by omega
 have hglw : w.heap.size ≤ gl := by omega
 have hgow : w.heap.size ≤ go := by have := HGO.out; omega
 have HOWN2 := Lib.hid hown2
 clear hown2 hgrow2 hgl HB2 HB12
 have hki : ¬ (19 : Int) < (k : Int) := by omega
 have hki2 : (k : Int) ≤ 19 := by omega
 go_wp2
 go_loopw [17] (fun iv wr => ∃ (i : Nat) (own : List Int) (uu : Un), i ≤ k ∧ iv = .int .i64 i ∧ Hid (own.length = 19) ∧ Hid (Small own) ∧ Hid (wr.ownsRow gl 3 1 (.slice (some ⟨gl, 0, none⟩) 19 19) 19 (iC own)) ∧ Hid (IRow wr (some ⟨go, 0, none⟩) 19 .i64 ordL) ∧ Hid (UnP wr H p r RA len rc l A n c uu m x) ∧ Hid (UOut p r (Value.slice A n c).ownBlock (Value.slice A n c).ownBlock w wr) ∧ Hid (ownF l ((ordN.take k).drop i) own uu = ownF l (ordN.take k) (List.replicate 19 0) u)) (fun iv _ => k - (intOf iv).toNat)
 case atStart => exact ⟨0, List.replicate 19 0, u, by omega, rfl, rfl, (by unfold Hid Small; decide +kernel), HOWN2, HOR2, HU2, HO2, rfl⟩
 case round =>
  obtain ⟨i, own, uu, hik, rfl, hol, hsm, hown, hor, hU, hO, hF⟩ := hrel
  by_cases hlt : i < k
  ·have hik2 : (i : Int) < (k : Int) := by omega
   obtain ⟨b1, o1, e1, _, q1⟩ := hor.out.at_ (i := i) (by omega)
   injection e1 with e1
   injection e1 with e1 e2 _
   obtain rfl := e1
   obtain rfl := e2
   obtain ⟨hs1, hs2⟩ := ordN_at (i := i) (by omega)
   obtain ⟨s, hs⟩ : ∃ s, s = ordN.getD i 0 := ⟨_, rfl⟩
   rw [hs1, ← hs, Nat.zero_add] at q1
   rw [← hs] at hs2
   have hF2 : Hid (ownF l ((ordN.take k).drop i) own uu = bnd (numF l 3 uu) fun q => ownF l ((ordN.take k).drop (i + 1)) (own.set s (q.1 : Int)) q.2) := by
    unfold Hid
    rw [ordN_drop hlt hk, ← hs]
    rfl
   have HN := Lib.hid (num_c hU.out 3 (by omega))
   have hs19 : (s : Int) < 19 := by omega
   clear hs1 hs
   go_wp2_with fail
   refine HN.out.mono ?_
   rintro e w3 (⟨z, g1, rfl, g2⟩ | ⟨v, u1, g1, hv, rfl, g2, g3⟩)
   ·have HE : Hid (ownF l (ordN.take k) (List.replicate 19 0) u = .error z) := by unfold Hid; rw [← hF.out, hF2.out, g1]; rfl
    have HO3 := Lib.hid (hO.out.trans g2)
    clear g1 g2
    go_wp2
    exact ⟨rfl, .inl ⟨z, .inl HE.out, rfl, HO3.out⟩⟩
   ·have hO3 := hO.out.trans g3
    have hown3 := own_uout hown.out g3 (by omega) (by omega) (fun g hg => by have := HA.out g hg; omega)
    have hc3 := hown3.cellAt s (by omega)
    have f3 := hown3.frozenAt s
    have hst := Lib.hid (hown3.stored s (.int .i64 (v : Nat)))
    rw [iC_at (by rw [hol.out]; omega)] at hc3
    have hor3 := g3.irow hor.out (fun b o e => by injection e with e; injection e with e; subst e; exact ⟨by omega, by omega, fun e2 => by have := HA.out _ e2; omega⟩)
    have hF3 : Hid (ownF l ((ordN.take k).drop (i + 1)) (own.set s (v : Int)) u1 = ownF l (ordN.take k) (List.replicate 19 0) u) := by unfold Hid; rw [← hF.out, hF2.out, g1]; rfl
    have hv8 : v < 8 := hv
    have hbs4 : Below w.heap.size w3 (w3.setCell ⟨gl, s, none⟩ (.int .i64 (v : Nat))) := (Below.refl _ _).setCell hglw _
    have hU4 : Hid (UnP (w3.setCell ⟨gl, s, none⟩ (.int .i64 (v : Nat))) H p r RA len rc l A n c u1 m x) := g2.keepB hHw HA.out hbs4
    have hO4 : Hid (UOut p r (Value.slice A n c).ownBlock (Value.slice A n c).ownBlock w (w3.setCell ⟨gl, s, none⟩ (.int .i64 (v : Nat)))) := hO3.thenB hbs4
    have hor4 : Hid (IRow (w3.setCell ⟨gl, s, none⟩ (.int .i64 (v : Nat))) (some ⟨go, 0, none⟩) 19 .i64 ordL) := by
     refine ⟨hor3.len, hor3.max, fun hn => ?_, hor3.wf⟩
     obtain ⟨b, o, e, hl, hc⟩ := hor3.cells hn
     refine ⟨b, o, e, by simpa [World.setCell] using hl, fun j hj => ?_⟩
     injection e with e
     injection e with e _ _
     rw [World.cell?_of_block (a := ⟨b, o + j, none⟩) (Go.Deep.blk_setCell_other w3 _ _ b (by show b ≠ gl; omega))]
     exact hc j hj
    have hown4 : Hid ((w3.setCell ⟨gl, s, none⟩ (.int .i64 (v : Nat))).ownsRow gl 3 1 (.slice (some ⟨gl, 0, none⟩) 19 19) 19 (iC (own.set s (v : Int)))) := by
     unfold Hid
     rw [← iC_set]
     exact hst.out.1
    have hsm4 : Hid (Small (own.set s (v : Int))) := hsm.out.set (by omega) s
    have hol4 : Hid ((own.set s (v : Int)).length = 19) := by unfold Hid; rw [List.length_set]; exact hol.out
    clear g1 g2 g3 hO3 hown3 hor3 hv hbs4
    generalize gi own s = y at hc3
    go_wp2
    go_roundw
    case rel => exact ⟨i + 1, _, u1, by omega, by go_num, hol4, hsm4, hown4, hor4, hU4, hO4, hF3⟩
    case measure => simp [intOf]; omega
  ·obtain rfl : i = k := by omega
   have hE : Hid (ownF l (ordN.take i) (List.replicate 19 0) u = .ok (own, uu)) := by unfold Hid; rw [← hF.out, ordN_end i hk]; rfl
   have hrow := IRow.ofOwn hown.out (by have := hsm.out.wf; rwa [hol.out] at this) (by unfold maxLen; omega)
   have HT := Lib.hid (newTable_c (some ⟨gl, 0, none⟩) 19 19 own wr hrow)
   rw [← hol.out] at HT
   clear hrow
   have HT2 := Lib.hid (newTable_c (some ⟨gl, 0, none⟩) 19 19 own wr (IRow.ofOwn hown.out (by have := hsm.out.wf; rwa [hol.out] at this) (by unfold maxLen; omega)))
   go_wp2_with fail
   refine HT2.out.mono ?_
   rintro e w3 (⟨g1, rfl, g2⟩ | ⟨g1, q, gc, LA, lc, S, rfl, g2, g3, g4⟩)
   ·have HE2 : Hid (errC own own.length = errC own 19 ∧ errC own 19 ≠ 0) := by unfold Hid; rw [hol.out]; exact ⟨rfl, g1⟩
    have HO3 := Lib.hid (hO.out.trans (UOut.ofBelow g2))
    clear g1 g2
    go_wp2
    exact ⟨rfl, .inl ⟨_, .inr ⟨own, uu, hE.out, HE2.out.1, HE2.out.2⟩, rfl, HO3.out⟩⟩
   ·have HE2 : Hid (errC own own.length = 0) := by unfold Hid; rw [hol.out]; exact g1
    have HO3 := Lib.hid (hO.out.trans (UOut.ofBelow g4))
    have HU3 := Lib.hid (hU.out.below g4)
    have hlw := hO.out.size
    have HTB : Hid (Tbl w3 p r (Value.slice A n c).ownBlock q own) := ⟨_, gc, LA, lc, S, g2, g3.far (by omega), g3.far (by omega), fun g hg => g3.far (by have := HA.out g hg; omega)⟩
    clear g1 g2 g3 g4
    go_wp2
    go_ret
    exact .inr ⟨own, uu, q, hE.out, HE2.out, rfl, HTB.out, HU3.out, HO3.out⟩
end
end
section
open Go.RowKit
set_option maxRecDepth 100000
set_option linter.unusedVariables false
theorem IRow.sub {w : World} {b o n i j : Nat} {k : IntKind} {l : List Int} (h : IRow w (some ⟨b, o, none⟩) n k l) (hij : i + j ≤ n) : IRow w (some ⟨b, o + i, none⟩) j k ((l.drop i).take j) := by
 have hl := h.len
 have hg : ∀ x, x < j → gi ((l.drop i).take j) x = gi l (i + x) := fun x hx => by simp [gi, List.getD, hx, List.getElem?_drop]
 refine ⟨by simp; omega, by have := h.max; omega, fun hn => ?_, fun x hx => ?_⟩
 ·obtain ⟨b', o', e, hlt, hc⟩ := h.cells (by omega)
  injection e with e
  injection e with e1 e2 _
  subst e1 e2
  refine ⟨b, o + i, rfl, hlt, fun x hx => ?_⟩
  rw [hg x hx, Nat.add_assoc]
  exact hc (i + x) (by omega)
 ·rw [hg x hx]
  exact h.wf (i + x) (by omega)
theorem own_bound {w : World} {base n c : Nat} {e : TypeId} {A : Option Addr} {xs : List Value} (h : w.ownsRow base e 1 (.slice A n c) n xs) : n ≤ c ∧ c ≤ 9223372036854775807 := by
 obtain ⟨A', c', hv, h1, h2⟩ := own_shape h
 injection hv with _ _ hc
 subst hc
 exact ⟨h1, by unfold maxLen at h2; exact h2⟩
def CErr (ls ds : List Int) (z : Nat) : Prop := z = errC ls ls.length ∧ errC ls ls.length ≠ 0 ∨ errC ls ls.length = 0 ∧ z = errC ds ds.length ∧ errC ds ds.length ≠ 0
theorem blockF_err {l : List F} {m : Nat} {ls ds : List Int} {u : Un} {z : Nat} (h : CErr ls ds z) : blockF l m ls ds u = .error z := by
 unfold blockF
 rcases h with ⟨rfl, h⟩ | ⟨h0, rfl, h⟩
 ·rw [if_pos h]
 ·rw [if_neg (by omega), if_pos h]
theorem blockF_ok {l : List F} {m : Nat} {ls ds : List Int} {u : Un} (h1 : errC ls ls.length = 0) (h2 : errC ds ds.length = 0) : blockF l m ls ds u = codedF l m ls ds u := by
 unfold blockF
 rw [if_neg (by omega), if_neg (by omega)]
section
variable {w : World} {H p r : Nat} {RA : Option Addr} {len rc : Nat} {l : List F} {A : Option Addr} {n c : Nat} {u : Un} {m : Nat} {x : Value}
def DynEnd (w : World) (T : TypeId) (H p r : Nat) (RA : Option Addr) (len rc : Nat) (l : List F) (A : Option Addr) (n c : Nat) (u : Un) (m : Nat) (x : Value) (e : Ending) (w' : World) : Prop :=
 (∃ z, (dynHF l u = .error z ∨ ∃ ls ds u', dynHF l u = .ok ((ls, ds), u') ∧ CErr ls ds z) ∧ e = .panicked [{ v := .iface T (.int .i64 (z : Nat)), recovered := false }] ∧ UOut p r (Value.slice A n c).ownBlock (Value.slice A n c).ownBlock w w') ∨
 (∃ ls ds u' q, dynHF l u = .ok ((ls, ds), u') ∧ errC ls ls.length = 0 ∧ errC ds ds.length = 0 ∧ e = .returned (.pointer (some ⟨q, 0, none⟩)) ∧ Cds w' p r (Value.slice A n c).ownBlock q ls ds ∧ UnP w' H p r RA len rc l A n c u' m x ∧ UOut p r (Value.slice A n c).ownBlock (Value.slice A n c).ownBlock w w')
set_option maxHeartbeats 4000000 in
theorem dynamicCodes_c (h : UnP w H p r RA len rc l A n c u m x) :
  Calls Tryz.prog 104 #[.pointer (some ⟨p, 0, none⟩)] w fun e w' => DynEnd w 33 H p r RA len rc l A n c u m x e w' := by
 have hlo := h.blk.lt
 have hlr := h.rd.lt
 have HA : Hid (∀ g, (Value.slice A n c).ownBlock = some g → g < w.heap.size) := fun g hg => (h.own.lt g hg).2
 have HN := Lib.hid (num_c h 5 (by omega))
 clear h
 go_enter Tryz.func104, Tryz.ntmps104
 go_wp2_with fail
 refine HN.out.mono ?_
 rintro e w1 (⟨z, g1, rfl, g2⟩ | ⟨m1, u1, g1, hv, rfl, g2, g3⟩)
 ·have HE : Hid (dynHF l u = .error z) := by unfold Hid dynHF; rw [g1]; rfl
  have HO := Lib.hid g2
  clear g1 g2
  go_wp2
  exact ⟨rfl, .inl ⟨z, .inl HE.out, rfl, HO.out⟩⟩
 have hm1 : m1 < 32 := hv
 have HF1 := Lib.hid g1
 have HO1 := Lib.hid g3
 have HN1 := Lib.hid (num_c g2 5 (by omega))
 clear g1 g2 g3 hv HN
 go_wp2_with fail
 refine HN1.out.mono ?_
 rintro e w2 (⟨z, g1, rfl, g2⟩ | ⟨d1, u2, g1, hv, rfl, g2, g3⟩)
 ·have HE : Hid (dynHF l u = .error z) := by unfold Hid dynHF; rw [HF1.out, bnd_ok, g1]; rfl
  have HO := Lib.hid (HO1.out.trans g2)
  clear g1 g2
  go_wp2
  exact ⟨rfl, .inl ⟨z, .inl HE.out, rfl, HO.out⟩⟩
 have hd1 : d1 < 32 := hv
 have HF2 := Lib.hid g1
 have HO2 := Lib.hid (HO1.out.trans g3)
 have HN2 := Lib.hid (num_c g2 4 (by omega))
 clear g1 g2 g3 hv HN1 HO1
 go_wp2_with fail
 refine HN2.out.mono ?_
 rintro e w3 (⟨z, g1, rfl, g2⟩ | ⟨k1, u3, g1, hv, rfl, g2, g3⟩)
 ·have HE : Hid (dynHF l u = .error z) := by unfold Hid dynHF; rw [HF1.out, bnd_ok, HF2.out, bnd_ok, g1]; rfl
  have HO := Lib.hid (HO2.out.trans g2)
  clear g1 g2
  go_wp2
  exact ⟨rfl, .inl ⟨z, .inl HE.out, rfl, HO.out⟩⟩
 have hk1 : k1 < 16 := hv
 have HO3 := Lib.hid (HO2.out.trans g3)
 have HU3 := Lib.hid g2
 have HD : Hid (dynHF l u = if 286 < m1 + 257 ∨ 30 < d1 + 1 then .error 23
   else bnd (ownF l (ordN.take (k1 + 4)) (List.replicate 19 0) u3) fun o =>
    if errC o.1 o.1.length ≠ 0 then .error (errC o.1 o.1.length)
    else bnd (lensF l o.1 (m1 + 257 + (d1 + 1)) (m1 + 257 + (d1 + 1) + 1) [] o.2) fun a =>
     if gi a.1 256 = 0 then .error 21 else .ok ((a.1.take (m1 + 257), a.1.drop (m1 + 257)), a.2)) := by
  unfold Hid dynHF
  rw [HF1.out, bnd_ok, HF2.out, bnd_ok, g1, bnd_ok]
 clear g1 g2 g3 hv HN2 HO2 HF1 HF2
 by_cases hbig : 286 < m1 + 257 ∨ 30 < d1 + 1
 ·have HE : Hid (dynHF l u = .error 23) := by unfold Hid; rw [HD.out, if_pos hbig]
  by_cases hb1 : 286 < m1 + 257
  ·have c1 : (286 : Int) < 257 + (m1 : Int) := by omega
   clear hbig hb1
   go_wp2
   exact ⟨rfl, .inl ⟨23, .inl HE.out, rfl, HO3.out⟩⟩
  ·have c1 : ¬ (286 : Int) < 257 + (m1 : Int) := by omega
   have c2 : (30 : Int) < 1 + (d1 : Int) := by omega
   clear hbig hb1
   go_wp2
   exact ⟨rfl, .inl ⟨23, .inl HE.out, rfl, HO3.out⟩⟩
 have c1 : ¬ (286 : Int) < 257 + (m1 : Int) := by omega
 have c2 : ¬ (30 : Int) < 1 + (d1 : Int) := by omega
 have HD2 : Hid (dynHF l u = bnd (ownF l (ordN.take (k1 + 4)) (List.replicate 19 0) u3) fun o =>
       if errC o.1 o.1.length ≠ 0 then .error (errC o.1 o.1.length)
       else bnd (lensF l o.1 (m1 + 257 + (d1 + 1)) (m1 + 257 + (d1 + 1) + 1) [] o.2) fun a =>
        if gi a.1 256 = 0 then .error 21 else .ok ((a.1.take (m1 + 257), a.1.drop (m1 + 257)), a.2)) := by unfold Hid; rw [HD.out, if_neg hbig]
 have hlc := lengthCodes_c (k := k1 + 4) HU3.out (by omega)
 obtain ⟨kk, hkk⟩ : ∃ kk, kk = k1 + 4 := ⟨_, rfl⟩
 have hki : (4 : Int) + (k1 : Int) = (kk : Int) := by omega
 rw [← hkk] at hlc HD2
 have HLC := Lib.hid hlc
 obtain ⟨lits, hlits⟩ : ∃ lits, lits = m1 + 257 := ⟨_, rfl⟩
 obtain ⟨ds, hds⟩ : ∃ ds, ds = d1 + 1 := ⟨_, rfl⟩
 have hli : (257 : Int) + (m1 : Int) = (lits : Int) := by omega
 have hdi : (1 : Int) + (d1 : Int) = (ds : Int) := by omega
 rw [← hlits, ← hds] at HD2
 have hl286 : lits ≤ 286 ∧ 257 ≤ lits := by omega
 have hd30 : ds ≤ 30 ∧ 1 ≤ ds := by omega
 clear hlc hkk hlits hds hbig HD
 go_wp2_with fail
 refine HLC.out.mono ?_
 rintro e w4 (⟨z, g1, rfl, g2⟩ | ⟨own, u4, q, g1, g2, rfl, g3, g4, g5⟩)
 ·have HE : Hid (dynHF l u = .error z) := by
   unfold Hid
   rw [HD2.out]
   rcases g1 with g1 | ⟨own, u', g1, rfl, g3⟩
   ·rw [g1]; rfl
   ·rw [g1, bnd_ok, if_pos g3]
  have HO := Lib.hid (HO3.out.trans g2)
  clear g1 g2
  go_wp2
  exact ⟨rfl, .inl ⟨z, .inl HE.out, rfl, HO.out⟩⟩
 have HO4 := Lib.hid (HO3.out.trans g5)
 have HD3 : Hid (dynHF l u = bnd (lensF l own (lits + ds) (lits + ds + 1) [] u4) fun a =>
         if gi a.1 256 = 0 then .error 21 else .ok ((a.1.take lits, a.1.drop lits), a.2)) := by
  unfold Hid
  rw [HD2.out, g1, bnd_ok, if_neg (by show ¬ (errC own own.length ≠ 0); omega)]
 have HLN := Lib.hid (lengths_c g4 g3 (many := lits + ds) (by omega) (by omega))
 obtain ⟨many, hmany⟩ : ∃ many, many = lits + ds := ⟨_, rfl⟩
 have hmi : (lits : Int) + (ds : Int) = (many : Int) := by omega
 rw [← hmany] at HLN HD3
 have HMANY := Lib.hid hmany
 clear g1 g2 g3 g4 g5 HD2 HO3 HLC hmany
 go_wp2_with fail
 refine HLN.out.mono ?_
 rintro e w5 (⟨z, g1, rfl, g2⟩ | ⟨row, u5, B, cb, g1, g2, g3, rfl, g4, g5, g6⟩)
 ·have HE : Hid (dynHF l u = .error z) := by unfold Hid; rw [HD3.out, g1]; rfl
  have HO := Lib.hid (HO4.out.trans g2)
  clear g1 g2
  go_wp2
  exact ⟨rfl, .inl ⟨z, .inl HE.out, rfl, HO.out⟩⟩
 have hm258 : 258 ≤ many ∧ many ≤ 400 := by have := HMANY.out; omega
 obtain ⟨g, cap, hv, _, hgl⟩ := g4.form (by omega)
 injection hv with hv1 _ hv3
 subst hv1 hv3
 obtain ⟨hcl, hcm⟩ := own_bound g4
 have hrow := IRow.ofOwn g4 (by have := g3.wf; rwa [g2] at this) (by unfold maxLen; omega)
 obtain ⟨b1, o1, e1, _, q1⟩ := hrow.at_ (i := 256) (by omega)
 injection e1 with e1
 injection e1 with e1 e2 _
 obtain rfl := e1
 obtain rfl := e2
 have hml : (lits : Nat) ≤ many := by have := HMANY.out; omega
 have hs1 := hrow.sub (i := 0) (j := lits) (by omega)
 have hs2 := hrow.sub (i := lits) (j := many - lits) (by omega)
 rw [Nat.add_zero, List.drop_zero] at hs1
 rw [Nat.zero_add] at hs2 q1
 have ht2 : (row.drop lits).take (many - lits) = row.drop lits := List.take_of_length_le (by simp; omega)
 rw [ht2] at hs2
 have HS1 := Lib.hid hs1
 have HS2 := Lib.hid hs2
 have HO5 := Lib.hid (HO4.out.trans g6)
 have HU5 := Lib.hid g5
 have HRL := Lib.hid g2
 have HL5 := Lib.hid g1
 have hidx : (256 : Int) < (many : Int) := by omega
 obtain ⟨y, hy⟩ : ∃ y, y = gi row 256 := ⟨_, rfl⟩
 rw [← hy] at q1
 have HY := Lib.hid hy
 clear hy g1 g2 g3 g4 g5 g6 hrow hs1 hs2 ht2 HO4 HLN
 by_cases hy0 : y = 0
 ·subst hy0
  have HE : Hid (dynHF l u = .error 21) := by unfold Hid; rw [HD3.out, HL5.out, bnd_ok, if_pos HY.out.symm]
  go_wp2
  exact ⟨rfl, .inl ⟨21, .inl HE.out, rfl, HO5.out⟩⟩
 have hyn : (y == 0) = false := by rw [beq_eq_false_iff_ne]; exact hy0
 have HE : Hid (dynHF l u = .ok ((row.take lits, row.drop lits), u5)) := by unfold Hid; rw [HD3.out, HL5.out, bnd_ok, if_neg (by rw [← HY.out]; exact hy0)]
 have HNC := Lib.hid (fun k => newCodes_c (p := p) (r := r) (a := (Value.slice A n c).ownBlock) (some ⟨g, 0, none⟩) (some ⟨g, lits, none⟩) lits (many - lits) cb (cb - lits) (row.take lits) (row.drop lits) (w5.drewN k) (HS1.out.drewN k) (HS2.out.drewN k) HU5.out.blk.lt HU5.out.rd.lt (fun g hg => (HU5.out.own.lt g hg).2))
 have hcl2 : (lits : Int) ≤ (cb : Int) := by omega
 have hlm : (lits : Int) ≤ (many : Int) := by omega
 have hcne : ¬ cb = lits := by have := HMANY.out; omega
 have hmc : ¬ (cb : Int) < (lits : Int) := by omega
 clear hy0
 go_wp2
 go_still_tail 6, (by kernel_rfl)
 go_wp2_with fail
 refine (HNC.out 1).mono ?_
 rintro e w6 (⟨z, g1, rfl, g2⟩ | ⟨g1, g2, q2, rfl, g3, g4⟩)
 ·have HO := Lib.hid ((HO5.out.drewN 1).trans (UOut.ofBelow g2))
  have HZ := Lib.hid g1
  clear g1 g2
  go_wp2
  exact ⟨rfl, .inl ⟨z, .inr ⟨_, _, u5, HE.out, HZ.out⟩, rfl, HO.out⟩⟩
 ·have HO := Lib.hid ((HO5.out.drewN 1).trans (UOut.ofBelow g4))
  have HU := Lib.hid ((HU5.out.drewN 1).below g4)
  have HC := Lib.hid g3
  have HZ := Lib.hid (And.intro g1 g2)
  clear g1 g2 g3 g4
  go_wp2
  go_ret
  exact .inr ⟨_, _, u5, q2, HE.out, HZ.out.1, HZ.out.2, rfl, HC.out, HU.out, HO.out⟩
end
end
end Go.Proofs.YtldgdofefcehnaaGreatDoor
