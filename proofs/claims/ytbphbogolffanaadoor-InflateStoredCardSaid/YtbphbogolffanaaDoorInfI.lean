/-
  THE CONTRACTS OF the unpacker's lengths, lengthCodes. No conditions.
-/
import Derived.Test.YtbphbogolffanaaDoorInfH
import Derived.Test.YtbphbogolffanaaDoorSymL
namespace Go.Proofs.YtbphbogolffanaaDoor
open Go.RowKit
set_option maxRecDepth 100000
set_option linter.unusedVariables false

theorem irow_wf_lt {w : World} {A : Option Addr} {n : Nat} {l : List Int} (h : IRow w A n .i64 l) : ∀ i, i < n → (Lit.int .i64 (gi l i)).wf = true := h.wf
/-- all are lengths -/
def Small (l : List Int) : Prop := ∀ i, i < l.length → 0 ≤ gi l i ∧ gi l i ≤ 300
theorem Small.append_rep {l : List Int} (h : Small l) {y : Int} (hy : 0 ≤ y ∧ y ≤ 300) (t : Nat) : Small (l ++ List.replicate t y) := by
  intro i hi
  by_cases e : i < l.length
  · have e2 : gi (l ++ List.replicate t y) i = gi l i := by simp [gi, List.getD, List.getElem?_append, e]
    rw [e2]
    exact h i e
  · rw [List.length_append, List.length_replicate] at hi
    have e2 : gi (l ++ List.replicate t y) i = y := by simp [gi, List.getD, List.getElem?_append, e, show i - l.length < t by omega]
    rw [e2]
    exact hy
theorem Small.wf {l : List Int} (h : Small l) : ∀ i, i < l.length → (Lit.int .i64 (gi l i)).wf = true := fun i hi => by
  have h1 := h i hi
  rw [show gi l i = (((gi l i).toNat : Nat) : Int) by omega]
  exact wf_nat _ (by omega)
theorem runF_small {l : List F} {c row : List Int} {u : Un} {y : Int} {t : Nat} {u' : Un} (hc : c.length ≤ 288) (hs : Small row) (hb : ∀ s u1, symF l c u = .ok (s, u1) → s < c.length) (h : runF l c row u = .ok ((y, t), u')) : (0 ≤ y ∧ y ≤ 300) ∧ 1 ≤ t := by
  unfold runF at h
  obtain ⟨r, h1, h2⟩ := bnd_inv h
  have hlt := hb r.1 r.2 h1
  by_cases e16 : r.1 = 16
  · rw [if_pos e16] at h2
    by_cases e0 : row.length = 0
    · rw [if_pos e0] at h2; cases h2
    · rw [if_neg e0] at h2
      obtain ⟨q, _, h3⟩ := bnd_inv h2
      injection h3 with h3
      injection h3 with h3 _
      injection h3 with h3 h4
      subst h3 h4
      exact ⟨hs _ (by omega), by omega⟩
  · rw [if_neg e16] at h2
    by_cases e17 : r.1 = 17
    · rw [if_pos e17] at h2
      obtain ⟨q, _, h3⟩ := bnd_inv h2
      injection h3 with h3
      injection h3 with h3 _
      injection h3 with h3 h4
      subst h3 h4
      exact ⟨by omega, by omega⟩
    · rw [if_neg e17] at h2
      by_cases e18 : r.1 = 18
      · rw [if_pos e18] at h2
        obtain ⟨q, _, h3⟩ := bnd_inv h2
        injection h3 with h3
        injection h3 with h3 _
        injection h3 with h3 h4
        subst h3 h4
        exact ⟨by omega, by omega⟩
      · rw [if_neg e18] at h2
        injection h2 with h3
        injection h3 with h3 _
        injection h3 with h3 h4
        subst h3 h4
        exact ⟨by omega, by omega⟩
theorem symF_lt {l : List F} {c : List Int} {u : Un} {s : Nat} {u1 : Un} (ha : u.at_ ≤ 8 * l.length) (h : symF l c u = .ok (s, u1)) : s < c.length := by
  obtain ⟨k, h1, _⟩ := symF_inv h
  have h2 := rdF_ok (l := c) (b := rb l) ha
  rw [h1] at h2
  rcases h2.2 with ⟨_, _, _, h3, _⟩ | ⟨h3, _⟩ | ⟨h3, _⟩
  · exact h3
  · cases h3
  · cases h3
section
variable {w : World} {H p r : Nat} {RA : Option Addr} {len rc : Nat} {l : List F} {A : Option Addr} {n c : Nat} {u : Un} {m : Nat} {x : Value}
theorem UnP.at_le (h : UnP w H p r RA len rc l A n c u m x) : u.at_ ≤ 8 * l.length := by rw [h.len_]; exact h.rd.le
/-- what a call made is none of the unpacker's -/
theorem own_apt {base k ck : Nat} {B : Option Addr} {e : TypeId} {xs : List Value} {a : Option Nat} {W : World} (h : W.ownsRow base e 1 (.slice B k ck) k xs) (hp : p < base) (hr : r < base) (ha : ∀ g, a = some g → g < base) : Apt p r a B := fun b o e => by
  have := (own_ne h hp) b o e
  have := (own_ne h hr) b o e
  exact ⟨by assumption, by assumption, fun e2 => (own_ne h (ha b e2)) b o e rfl⟩
theorem own_uout {base k : Nat} {v : Value} {e : TypeId} {xs : List Value} {a b : Option Nat} {W W' : World} (h : W.ownsRow base e 1 v k xs) (ho : UOut p r a b W W') (hp : p < base) (hr : r < base) (ha : ∀ g, a = some g → g < base) : W'.ownsRow base e 1 v k xs := by
  refine ⟨h.1, ?_⟩
  rcases h.2 with hn | ⟨g, cap, cur, hv, hbg, hg, rest⟩
  · exact .inl hn
  · exact .inr ⟨g, cap, cur, hv, hbg, (ho.block g (Array.getElem?_eq_some_iff.1 hg).1 (by omega) (by omega) (fun e2 => by have := ha g e2; omega)).trans hg, rest⟩
/-- nothing below T is another: nothing of the unpacker's either -/
theorem UnP.keepB {w' : World} {T : Nat} (h : UnP w H p r RA len rc l A n c u m x) (hT : H ≤ T) (ha : ∀ g, (Value.slice A n c).ownBlock = some g → g < T) (hb : Below T w w') : UnP w' H p r RA len rc l A n c u m x := by
  have hlo := h.lo
  have hlow := h.low
  have hs := hb.size
  have key : ∀ g t (C : Array Value), Blk w g t C → g < T → Blk w' g t C := fun g t C h1 h2 => by
    unfold Blk at h1 ⊢
    rw [hb.block g h2]
    exact h1
  refine ⟨key _ _ _ h.blk (by omega), ⟨key _ _ _ h.rd.blk (by omega), ⟨⟨h.rd.row.row.1, h.rd.row.row.2.1, fun hn => ?_⟩, h.rd.row.le, h.rd.row.max⟩, h.rd.le, h.rd.ne, h.rd.few⟩, ?_, h.ne, h.lo, h.lor, h.few, Nat.le_trans h.here hs, ⟨by have := h.tabs.size; omega, fun i hi => (hb.cell (p := ⟨0, i, none⟩) (by show 0 < T; omega)).trans (h.tabs.len i hi), fun i hi => (hb.cell (p := ⟨1, i, none⟩) (by show 1 < T; omega)).trans (h.tabs.dist i hi)⟩, h.low⟩
  · obtain ⟨b, o, e, hbl, hc⟩ := h.rd.row.row.2.2 hn
    have h6 := h.lor b o e
    exact ⟨b, o, e, by omega, fun i hi => (hb.cell (p := ⟨b, o + i, none⟩) (by show b < T; omega)).trans (hc i hi)⟩
  · refine ⟨h.own.1, ?_⟩
    rcases h.own.2 with hn | ⟨g, cap, cur, hv, hbg, hg, rest⟩
    · exact .inl hn
    · exact .inr ⟨g, cap, cur, hv, hbg, (hb.block g (ha g (by rw [hv]; rfl))).trans hg, rest⟩
theorem UOut.thenB {p r : Nat} {a b : Option Nat} {w w' w'' : World} (h : UOut p r a b w w') (hb : Below w.heap.size w' w'') : UOut p r a b w w'' :=
  ⟨hb.os.trans h.os, hb.tape.trans h.tape, hb.output.trans h.output, Nat.le_trans h.size hb.size, fun k hk hp hr ha => (hb.block k hk).trans (h.block k hk hp hr ha), h.nw⟩
set_option maxHeartbeats 4000000 in
theorem lengths_c {q many : Nat} {cl : List Int} (h : UnP w H p r RA len rc l A n c u m x) (ht : Tbl w p r (Value.slice A n c).ownBlock q cl) (hm : many ≤ 1000) (hm1 : 1 ≤ many) :
    Calls Tryd.prog 48 #[.pointer (some ⟨p, 0, none⟩), .pointer (some ⟨q, 0, none⟩), .int .i64 many] w fun e w' =>
      (∃ k, lensF l cl many (many + 1) [] u = .error k ∧ e = .panicked [{ v := .iface 24 (.int .i64 k), recovered := false }] ∧ UOut p r (Value.slice A n c).ownBlock (Value.slice A n c).ownBlock w w') ∨
      (∃ row u' B cb, lensF l cl many (many + 1) [] u = .ok (row, u') ∧ row.length = many ∧ Small row ∧ e = .returned (.slice B many cb) ∧ w'.ownsRow w.heap.size 3 1 (.slice B many cb) many (iC row) ∧ UnP w' H p r RA len rc l A n c u' m x ∧ UOut p r (Value.slice A n c).ownBlock (Value.slice A n c).ownBlock w w') := by
  obtain ⟨i0, hi, hz0, hz1, hz2⟩ := info_parts info_int
  have HH := Lib.hid h
  have HT := Lib.hid ht
  have hlo := h.blk.lt
  have hlr := h.rd.lt
  have hHw := h.here
  have HA : Hid (∀ g, (Value.slice A n c).ownBlock = some g → g < w.heap.size) := fun g hg => (h.own.lt g hg).2
  clear h ht
  go_enter Tryd.func48, Tryd.ntmps48
  go_wp2
  go_loopg [7] (many + 1) (fun gk v wr => ∃ (k : Nat) (B : Option Addr) (cb : Nat) (row : List Int) (uu : Un), v = .slice B k cb ∧ k ≤ many ∧ Hid (many + 1 ≤ gk + k) ∧ Hid (1 ≤ gk) ∧ Hid (Small row) ∧ Hid (wr.ownsRow w.heap.size 3 1 (.slice B k cb) k (iC row)) ∧ Hid (UnP wr H p r RA len rc l A n c uu m x) ∧ Hid (UOut p r (Value.slice A n c).ownBlock (Value.slice A n c).ownBlock w wr) ∧ Hid (lensF l cl many gk row uu = lensF l cl many (many + 1) [] u))
  case atStart => exact ⟨0, none, 0, [], u, rfl, by omega, (by unfold Hid; omega), (by unfold Hid; omega), (fun i hi => absurd hi (by simp)), World.ownsRow_nil _ _ _ _, HH, UOut.refl _ _ _ _, rfl⟩
  case round =>
    obtain ⟨k, B, cb, row, uu, rfl, hk, hgk, hg1, hsm, hown, hU, hO, hF⟩ := hrel
    obtain ⟨f, hf⟩ : ∃ f, gk = f + 1 := ⟨gk - 1, by have := hg1.out; omega⟩
    have hrl : Hid (row.length = k) := by have := hown.out.1; unfold Hid; rw [iC_length] at this; omega
    by_cases hlt : k < many
    · have hki : (k : Int) < (many : Int) := by omega
      have hrow := IRow.ofOwn hown.out (by have := hsm.out.wf; rwa [hrl.out] at this) (by unfold maxLen; omega)
      have hap := own_apt hown.out hlo hlr HA.out
      have HRUN := Lib.hid (run_c (cb := cb) hU.out (HT.out.step hO.out) hrow hap (by omega))
      have hst : Hid (lensF l cl many gk row uu = bnd (runF l cl row uu) fun r => if many < k + r.1.2 then .error 23 else lensF l cl many f (row ++ List.replicate r.1.2 r.1.1) r.2) := by
        unfold Hid
        rw [hf, lensF, if_neg (by rw [hrl.out]; omega), hrl.out]
      have HS2 : Hid (∀ y t u', runF l cl row uu = .ok ((y, t), u') → (0 ≤ y ∧ y ≤ 300) ∧ 1 ≤ t) := fun y t u' h1 => runF_small HT.out.len hsm.out (fun s u1 h2 => symF_lt hU.out.at_le h2) h1
      have HFF := Lib.hid hf
      clear hrow hap hf
      go_wp2_with fail
      refine HRUN.out.mono ?_
      rintro e w1 (⟨k2, g1, rfl, g2⟩ | ⟨y, t, u1, g1, ht200, rfl, g2, g3⟩)
      · have HE : Hid (lensF l cl many (many + 1) [] u = .error k2) := by unfold Hid; rw [← hF.out, hst.out, g1]; rfl
        have HO2 := Lib.hid (hO.out.trans g2)
        clear g1 g2
        go_wp2
        exact ⟨rfl, .inl ⟨k2, HE.out, rfl, HO2.out⟩⟩
      · obtain ⟨hy, ht1⟩ := HS2.out y t u1 g1
        have HY := Lib.hid hy
        have hst2 : Hid (lensF l cl many gk row uu = if many < k + t then .error 23 else lensF l cl many f (row ++ List.replicate t y) u1) := by unfold Hid; rw [hst.out, g1]; rfl
        have HO2 := Lib.hid (hO.out.trans g3)
        have HU2 := Lib.hid g2
        have HOWN2 := Lib.hid (own_uout hown.out g3 hlo hlr HA.out)
        have hsub : Hid ((many : Int) - (k : Int) = ((many - k : Nat) : Int)) := by unfold Hid; omega
        clear g1 g2 g3 hy
        by_cases hbig : many < k + t
        · have HE : Hid (lensF l cl many (many + 1) [] u = .error 23) := by unfold Hid; rw [← hF.out, hst2.out, if_pos hbig]
          have hcmp : (many : Int) - (k : Int) < (t : Int) := by omega
          go_wp2
          exact ⟨rfl, .inl ⟨23, HE.out, rfl, HO2.out⟩⟩
        · have hcmp : ¬ (many : Int) - (k : Int) < (t : Int) := by omega
          go_wp2_with fail
          refine (Rep_c y t ht1 (by omega) _ _ _ (by go_simp) rfl).mono ?_
          rintro e w2 ⟨g2, rfl, o2, b2⟩
          have B2 := Lib.hid (belA b2)
          have hw1s : w.heap.size ≤ w1.heap.size := HO2.out.size
          have hw2s : w1.heap.size ≤ w2.heap.size := B2.out.size
          have HOWN3 := Lib.hid (own_below HOWN2.out B2.out)
          have HCL : Hid (∀ j u, (iC (List.replicate t y))[j]? = some u → w2.cell? ((⟨g2, 0, none⟩ : Addr).add j) = some u) := (IRow.ofOwn o2 (by
            intro i hi
            have e : gi (List.replicate t y) i = y := by simp [gi, hi]
            rw [e, show y = ((y.toNat : Nat) : Int) by have := HY.out; omega]
            exact wf_nat _ (by have := HY.out; omega)) (by unfold maxLen; omega)).cellsOf
          have hbase : w.heap.size ≤ w2.heap.size := by omega
          clear o2 b2
          go_wp2_with (at_builtin; refine wpList_append_own _ rfl _ _ 35 rfl w.heap.size 3 i0 (.int .i64 0) 1 8 Tryd.underlying35 hi hz0 hz1 hz2 rfl (by decide) _ _ _ rfl HOWN3.out ⟨g2, 0, none⟩ t t (iC (List.replicate t y)) rfl (by rw [iC_length, List.length_replicate, Nat.mul_one]) HCL.out (iC_one _) (by unfold maxLen; omega) (by omega) hbase ?_; intro v' w3 hown3 hgrow3 hnil3)
          have hB13 : Below w.heap.size w1 w3 := (B2.out.mono hw1s).grown hgrow3 hbase (fun k hk => (HOWN3.out.lt k hk).1)
          have hU3 : Hid (UnP w3 H p r RA len rc l A n c u1 m x) := HU2.out.keepB hHw HA.out hB13
          have hO3 : Hid (UOut p r (Value.slice A n c).ownBlock (Value.slice A n c).ownBlock w w3) := HO2.out.thenB hB13
          have hsm3 : Hid (Small (row ++ List.replicate t y)) := hsm.out.append_rep HY.out t
          obtain ⟨B3, cb3, rfl, _⟩ := own_shape hown3
          have hown4 : Hid (w3.ownsRow w.heap.size 3 1 (.slice B3 (k + t) cb3) (k + t) (iC (row ++ List.replicate t y))) := by unfold Hid; rw [iC_append]; exact hown3
          have hF3 : Hid (lensF l cl many f (row ++ List.replicate t y) u1 = lensF l cl many (many + 1) [] u) := by unfold Hid; rw [← hF.out, hst2.out, if_neg hbig]
          have hkt : k + t ≤ many := by omega
          have hgk3 : Hid (many + 1 ≤ f + (k + t)) := by unfold Hid; have h1 := hgk.out; have h2 := HFF.out; omega
          have hg13 : Hid (1 ≤ f) := by unfold Hid; have h1 := hgk.out; have h2 := HFF.out; omega
          have hfg : Hid (f < gk) := by unfold Hid; have h2 := HFF.out; omega
          clear hown3 hgrow3 hnil3 hB13
          go_wp2
          go_roundg f
          case measure => exact hfg.out
          case rel => exact ⟨k + t, B3, cb3, _, u1, rfl, hkt, hgk3, hg13, hsm3, hown4, hU3, hO3, hF3⟩
    · obtain rfl : k = many := by omega
      have hE : Hid (lensF l cl k (k + 1) [] u = .ok (row, uu)) := by
        unfold Hid
        rw [← hF.out, hf, lensF, if_pos (by rw [hrl.out]; exact Nat.le_refl _)]
      clear hf
      go_wp2
      go_ret
      exact .inr ⟨row, uu, B, cb, hE.out, hrl.out, hsm.out, rfl, hown.out, hU.out, hO.out⟩
end
end Go.Proofs.YtbphbogolffanaaDoor
