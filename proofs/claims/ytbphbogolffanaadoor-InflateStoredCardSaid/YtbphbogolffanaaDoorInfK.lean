/-
  THE CONTRACTS OF the unpacker's dynamicCodes, block. No conditions.
-/
import Derived.Test.YtbphbogolffanaaDoorInfJ
namespace Go.Proofs.YtbphbogolffanaaDoor
open Go.RowKit
set_option maxRecDepth 100000
set_option linter.unusedVariables false

theorem IRow.sub {w : World} {b o n i j : Nat} {k : IntKind} {l : List Int} (h : IRow w (some ⟨b, o, none⟩) n k l) (hij : i + j ≤ n) : IRow w (some ⟨b, o + i, none⟩) j k ((l.drop i).take j) := by
  have hl := h.len
  have hg : ∀ x, x < j → gi ((l.drop i).take j) x = gi l (i + x) := fun x hx => by simp [gi, List.getD, hx, List.getElem?_drop]
  refine ⟨by simp; omega, by have := h.max; omega, fun hn => ?_, fun x hx => ?_⟩
  · obtain ⟨b', o', e, hlt, hc⟩ := h.cells (by omega)
    injection e with e
    injection e with e1 e2 _
    subst e1 e2
    refine ⟨b, o + i, rfl, hlt, fun x hx => ?_⟩
    rw [hg x hx, Nat.add_assoc]
    exact hc (i + x) (by omega)
  · rw [hg x hx]
    exact h.wf (i + x) (by omega)
theorem own_bound {w : World} {base n c : Nat} {e : TypeId} {A : Option Addr} {xs : List Value} (h : w.ownsRow base e 1 (.slice A n c) n xs) : n ≤ c ∧ c ≤ 9223372036854775807 := by
  obtain ⟨A', c', hv, h1, h2⟩ := own_shape h
  injection hv with _ _ hc
  subst hc
  exact ⟨h1, by unfold maxLen at h2; exact h2⟩
/-- what is wrong with two rows of lengths -/
def CErr (ls ds : List Int) (z : Nat) : Prop := z = errC ls ls.length ∧ errC ls ls.length ≠ 0 ∨ errC ls ls.length = 0 ∧ z = errC ds ds.length ∧ errC ds ds.length ≠ 0
theorem blockF_err {l : List F} {m : Nat} {ls ds : List Int} {u : Un} {z : Nat} (h : CErr ls ds z) : blockF l m ls ds u = .error z := by
  unfold blockF
  rcases h with ⟨rfl, h⟩ | ⟨h0, rfl, h⟩
  · rw [if_pos h]
  · rw [if_neg (by omega), if_pos h]
theorem blockF_ok {l : List F} {m : Nat} {ls ds : List Int} {u : Un} (h1 : errC ls ls.length = 0) (h2 : errC ds ds.length = 0) : blockF l m ls ds u = codedF l m ls ds u := by
  unfold blockF
  rw [if_neg (by omega), if_neg (by omega)]
section
variable {w : World} {H p r : Nat} {RA : Option Addr} {len rc : Nat} {l : List F} {A : Option Addr} {n c : Nat} {u : Un} {m : Nat} {x : Value}
/-- codes that a block tells of itself, or the panic -/
def DynEnd (w : World) (T : TypeId) (H p r : Nat) (RA : Option Addr) (len rc : Nat) (l : List F) (A : Option Addr) (n c : Nat) (u : Un) (m : Nat) (x : Value) (e : Ending) (w' : World) : Prop :=
  (∃ z, (dynHF l u = .error z ∨ ∃ ls ds u', dynHF l u = .ok ((ls, ds), u') ∧ CErr ls ds z) ∧ e = .panicked [{ v := .iface T (.int .i64 (z : Nat)), recovered := false }] ∧ UOut p r (Value.slice A n c).ownBlock (Value.slice A n c).ownBlock w w') ∨
  (∃ ls ds u' q, dynHF l u = .ok ((ls, ds), u') ∧ errC ls ls.length = 0 ∧ errC ds ds.length = 0 ∧ e = .returned (.pointer (some ⟨q, 0, none⟩)) ∧ Cds w' p r (Value.slice A n c).ownBlock q ls ds ∧ UnP w' H p r RA len rc l A n c u' m x ∧ UOut p r (Value.slice A n c).ownBlock (Value.slice A n c).ownBlock w w')
set_option maxHeartbeats 4000000 in
theorem dynamicCodes_c (h : UnP w H p r RA len rc l A n c u m x) :
    Calls Tryd.prog 27 #[.pointer (some ⟨p, 0, none⟩)] w fun e w' => DynEnd w 24 H p r RA len rc l A n c u m x e w' := by
  have hlo := h.blk.lt
  have hlr := h.rd.lt
  have HA : Hid (∀ g, (Value.slice A n c).ownBlock = some g → g < w.heap.size) := fun g hg => (h.own.lt g hg).2
  have HN := Lib.hid (num_c h 5 (by omega))
  clear h
  go_enter Tryd.func27, Tryd.ntmps27
  go_wp2_with fail
  refine HN.out.mono ?_
  rintro e w1 (⟨z, g1, rfl, g2⟩ | ⟨m1, u1, g1, hv, rfl, g2, g3⟩)
  · have HE : Hid (dynHF l u = .error z) := by unfold Hid dynHF; rw [g1]; rfl
    have HO := Lib.hid g2
    clear g1 g2
    go_wp2
    exact ⟨rfl, .inl ⟨z, .inl HE.out, rfl, HO.out⟩⟩
  have hm1 : m1 < 32 := hv
  have HF1 := Lib.hid g1
  have HO1 := Lib.hid g3
  have HN1 := Lib.hid (num_c g2 5 (by omega))
  clear g1 g2 g3 hv HN
  go_wp2_with fail
  refine HN1.out.mono ?_
  rintro e w2 (⟨z, g1, rfl, g2⟩ | ⟨d1, u2, g1, hv, rfl, g2, g3⟩)
  · have HE : Hid (dynHF l u = .error z) := by unfold Hid dynHF; rw [HF1.out, bnd_ok, g1]; rfl
    have HO := Lib.hid (HO1.out.trans g2)
    clear g1 g2
    go_wp2
    exact ⟨rfl, .inl ⟨z, .inl HE.out, rfl, HO.out⟩⟩
  have hd1 : d1 < 32 := hv
  have HF2 := Lib.hid g1
  have HO2 := Lib.hid (HO1.out.trans g3)
  have HN2 := Lib.hid (num_c g2 4 (by omega))
  clear g1 g2 g3 hv HN1 HO1
  go_wp2_with fail
  refine HN2.out.mono ?_
  rintro e w3 (⟨z, g1, rfl, g2⟩ | ⟨k1, u3, g1, hv, rfl, g2, g3⟩)
  · have HE : Hid (dynHF l u = .error z) := by unfold Hid dynHF; rw [HF1.out, bnd_ok, HF2.out, bnd_ok, g1]; rfl
    have HO := Lib.hid (HO2.out.trans g2)
    clear g1 g2
    go_wp2
    exact ⟨rfl, .inl ⟨z, .inl HE.out, rfl, HO.out⟩⟩
  have hk1 : k1 < 16 := hv
  have HO3 := Lib.hid (HO2.out.trans g3)
  have HU3 := Lib.hid g2
  have HD : Hid (dynHF l u = if 286 < m1 + 257 ∨ 30 < d1 + 1 then .error 23
      else bnd (ownF l (ordN.take (k1 + 4)) (List.replicate 19 0) u3) fun o =>
        if errC o.1 o.1.length ≠ 0 then .error (errC o.1 o.1.length)
        else bnd (lensF l o.1 (m1 + 257 + (d1 + 1)) (m1 + 257 + (d1 + 1) + 1) [] o.2) fun a =>
          if gi a.1 256 = 0 then .error 21 else .ok ((a.1.take (m1 + 257), a.1.drop (m1 + 257)), a.2)) := by
    unfold Hid dynHF
    rw [HF1.out, bnd_ok, HF2.out, bnd_ok, g1, bnd_ok]
  clear g1 g2 g3 hv HN2 HO2 HF1 HF2
  by_cases hbig : 286 < m1 + 257 ∨ 30 < d1 + 1
  · have HE : Hid (dynHF l u = .error 23) := by unfold Hid; rw [HD.out, if_pos hbig]
    by_cases hb1 : 286 < m1 + 257
    · have c1 : (286 : Int) < 257 + (m1 : Int) := by omega
      clear hbig hb1
      go_wp2
      exact ⟨rfl, .inl ⟨23, .inl HE.out, rfl, HO3.out⟩⟩
    · have c1 : ¬ (286 : Int) < 257 + (m1 : Int) := by omega
      have c2 : (30 : Int) < 1 + (d1 : Int) := by omega
      clear hbig hb1
      go_wp2
      exact ⟨rfl, .inl ⟨23, .inl HE.out, rfl, HO3.out⟩⟩
  have c1 : ¬ (286 : Int) < 257 + (m1 : Int) := by omega
  have c2 : ¬ (30 : Int) < 1 + (d1 : Int) := by omega
  have HD2 : Hid (dynHF l u = bnd (ownF l (ordN.take (k1 + 4)) (List.replicate 19 0) u3) fun o =>
        if errC o.1 o.1.length ≠ 0 then .error (errC o.1 o.1.length)
        else bnd (lensF l o.1 (m1 + 257 + (d1 + 1)) (m1 + 257 + (d1 + 1) + 1) [] o.2) fun a =>
          if gi a.1 256 = 0 then .error 21 else .ok ((a.1.take (m1 + 257), a.1.drop (m1 + 257)), a.2)) := by unfold Hid; rw [HD.out, if_neg hbig]
  have hlc := lengthCodes_c (k := k1 + 4) HU3.out (by omega)
  obtain ⟨kk, hkk⟩ : ∃ kk, kk = k1 + 4 := ⟨_, rfl⟩
  have hki : (4 : Int) + (k1 : Int) = (kk : Int) := by omega
  rw [← hkk] at hlc HD2
  have HLC := Lib.hid hlc
  obtain ⟨lits, hlits⟩ : ∃ lits, lits = m1 + 257 := ⟨_, rfl⟩
  obtain ⟨ds, hds⟩ : ∃ ds, ds = d1 + 1 := ⟨_, rfl⟩
  have hli : (257 : Int) + (m1 : Int) = (lits : Int) := by omega
  have hdi : (1 : Int) + (d1 : Int) = (ds : Int) := by omega
  rw [← hlits, ← hds] at HD2
  have hl286 : lits ≤ 286 ∧ 257 ≤ lits := by omega
  have hd30 : ds ≤ 30 ∧ 1 ≤ ds := by omega
  clear hlc hkk hlits hds hbig HD
  go_wp2_with fail
  refine HLC.out.mono ?_
  rintro e w4 (⟨z, g1, rfl, g2⟩ | ⟨own, u4, q, g1, g2, rfl, g3, g4, g5⟩)
  · have HE : Hid (dynHF l u = .error z) := by
      unfold Hid
      rw [HD2.out]
      rcases g1 with g1 | ⟨own, u', g1, rfl, g3⟩
      · rw [g1]; rfl
      · rw [g1, bnd_ok, if_pos g3]
    have HO := Lib.hid (HO3.out.trans g2)
    clear g1 g2
    go_wp2
    exact ⟨rfl, .inl ⟨z, .inl HE.out, rfl, HO.out⟩⟩
  have HO4 := Lib.hid (HO3.out.trans g5)
  have HD3 : Hid (dynHF l u = bnd (lensF l own (lits + ds) (lits + ds + 1) [] u4) fun a =>
          if gi a.1 256 = 0 then .error 21 else .ok ((a.1.take lits, a.1.drop lits), a.2)) := by
    unfold Hid
    rw [HD2.out, g1, bnd_ok, if_neg (by show ¬ (errC own own.length ≠ 0); omega)]
  have HLN := Lib.hid (lengths_c g4 g3 (many := lits + ds) (by omega) (by omega))
  obtain ⟨many, hmany⟩ : ∃ many, many = lits + ds := ⟨_, rfl⟩
  have hmi : (lits : Int) + (ds : Int) = (many : Int) := by omega
  rw [← hmany] at HLN HD3
  have HMANY := Lib.hid hmany
  clear g1 g2 g3 g4 g5 HD2 HO3 HLC hmany
  go_wp2_with fail
  refine HLN.out.mono ?_
  rintro e w5 (⟨z, g1, rfl, g2⟩ | ⟨row, u5, B, cb, g1, g2, g3, rfl, g4, g5, g6⟩)
  · have HE : Hid (dynHF l u = .error z) := by unfold Hid; rw [HD3.out, g1]; rfl
    have HO := Lib.hid (HO4.out.trans g2)
    clear g1 g2
    go_wp2
    exact ⟨rfl, .inl ⟨z, .inl HE.out, rfl, HO.out⟩⟩
  have hm258 : 258 ≤ many ∧ many ≤ 400 := by have := HMANY.out; omega
  obtain ⟨g, cap, hv, _, hgl⟩ := g4.form (by omega)
  injection hv with hv1 _ hv3
  subst hv1 hv3
  obtain ⟨hcl, hcm⟩ := own_bound g4
  have hrow := IRow.ofOwn g4 (by have := g3.wf; rwa [g2] at this) (by unfold maxLen; omega)
  obtain ⟨b1, o1, e1, _, q1⟩ := hrow.at_ (i := 256) (by omega)
  injection e1 with e1
  injection e1 with e1 e2 _
  obtain rfl := e1
  obtain rfl := e2
  have hml : (lits : Nat) ≤ many := by have := HMANY.out; omega
  have hs1 := hrow.sub (i := 0) (j := lits) (by omega)
  have hs2 := hrow.sub (i := lits) (j := many - lits) (by omega)
  rw [Nat.add_zero, List.drop_zero] at hs1
  rw [Nat.zero_add] at hs2 q1
  have ht2 : (row.drop lits).take (many - lits) = row.drop lits := List.take_of_length_le (by simp; omega)
  rw [ht2] at hs2
  have HS1 := Lib.hid hs1
  have HS2 := Lib.hid hs2
  have HO5 := Lib.hid (HO4.out.trans g6)
  have HU5 := Lib.hid g5
  have HRL := Lib.hid g2
  have HL5 := Lib.hid g1
  have hidx : (256 : Int) < (many : Int) := by omega
  obtain ⟨y, hy⟩ : ∃ y, y = gi row 256 := ⟨_, rfl⟩
  rw [← hy] at q1
  have HY := Lib.hid hy
  clear hy g1 g2 g3 g4 g5 g6 hrow hs1 hs2 ht2 HO4 HLN
  by_cases hy0 : y = 0
  · subst hy0
    have HE : Hid (dynHF l u = .error 21) := by unfold Hid; rw [HD3.out, HL5.out, bnd_ok, if_pos HY.out.symm]
    go_wp2
    exact ⟨rfl, .inl ⟨21, .inl HE.out, rfl, HO5.out⟩⟩
  have hyn : (y == 0) = false := by rw [beq_eq_false_iff_ne]; exact hy0
  have HE : Hid (dynHF l u = .ok ((row.take lits, row.drop lits), u5)) := by unfold Hid; rw [HD3.out, HL5.out, bnd_ok, if_neg (by rw [← HY.out]; exact hy0)]
  have HNC := Lib.hid (fun k => newCodes_c (p := p) (r := r) (a := (Value.slice A n c).ownBlock) (some ⟨g, 0, none⟩) (some ⟨g, lits, none⟩) lits (many - lits) cb (cb - lits) (row.take lits) (row.drop lits) (w5.drewN k) (HS1.out.drewN k) (HS2.out.drewN k) HU5.out.blk.lt HU5.out.rd.lt (fun g hg => (HU5.out.own.lt g hg).2))
  have hcl2 : (lits : Int) ≤ (cb : Int) := by omega
  have hlm : (lits : Int) ≤ (many : Int) := by omega
  have hcne : ¬ cb = lits := by have := HMANY.out; omega
  have hmc : ¬ (cb : Int) < (lits : Int) := by omega
  clear hy0
  go_wp2
  go_still_tail 6, (by kernel_rfl)
  go_wp2_with fail
  refine (HNC.out 1).mono ?_
  rintro e w6 (⟨z, g1, rfl, g2⟩ | ⟨g1, g2, q2, rfl, g3, g4⟩)
  · have HO := Lib.hid ((HO5.out.drewN 1).trans (UOut.ofBelow g2))
    have HZ := Lib.hid g1
    clear g1 g2
    go_wp2
    exact ⟨rfl, .inl ⟨z, .inr ⟨_, _, u5, HE.out, HZ.out⟩, rfl, HO.out⟩⟩
  · have HO := Lib.hid ((HO5.out.drewN 1).trans (UOut.ofBelow g4))
    have HU := Lib.hid ((HU5.out.drewN 1).below g4)
    have HC := Lib.hid g3
    have HZ := Lib.hid (And.intro g1 g2)
    clear g1 g2 g3 g4
    go_wp2
    go_ret
    exact .inr ⟨_, _, u5, q2, HE.out, HZ.out.1, HZ.out.2, rfl, HC.out, HU.out, HO.out⟩
end
end Go.Proofs.YtbphbogolffanaaDoor
