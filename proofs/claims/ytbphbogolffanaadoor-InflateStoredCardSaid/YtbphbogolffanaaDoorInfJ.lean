/-
  THE CONTRACT OF the unpacker's lengthCodes. No conditions.
-/
import Derived.Test.YtbphbogolffanaaDoorInfI
namespace Go.Proofs.YtbphbogolffanaaDoor
open Go.RowKit
set_option maxRecDepth 100000
set_option linter.unusedVariables false

theorem ordN_at {i : Nat} (h : i < 19) : gi ordL i = ((ordN.getD i 0 : Nat) : Int) ∧ ordN.getD i 0 < 19 := by
  have : ∀ i, i < 19 → gi ordL i = ((ordN.getD i 0 : Nat) : Int) ∧ ordN.getD i 0 < 19 := by decide +kernel
  exact this i h
theorem ordN_drop {i k : Nat} (h : i < k) (hk : k ≤ 19) : (ordN.take k).drop i = ordN.getD i 0 :: (ordN.take k).drop (i + 1) := by
  have : ∀ k, k < 20 → ∀ i, i < k → (ordN.take k).drop i = ordN.getD i 0 :: (ordN.take k).drop (i + 1) := by decide +kernel
  exact this k (by omega) i h
theorem ordN_end (k : Nat) (hk : k ≤ 19) : (ordN.take k).drop k = [] := List.drop_of_length_le (by simp [ordN]; omega)
theorem iC_set (l : List Int) (i : Nat) (v : Int) : (iC l).set i (.int .i64 v) = iC (l.set i v) := by
  unfold iC
  rw [List.map_set]
theorem Small.set {l : List Int} (h : Small l) {v : Int} (hv : 0 ≤ v ∧ v ≤ 300) (i : Nat) : Small (l.set i v) := by
  intro j hj
  rw [List.length_set] at hj
  by_cases e : j = i
  · subst e
    have e2 : gi (l.set j v) j = v := by simp [gi, hj]
    rw [e2]; exact hv
  · have e2 : gi (l.set i v) j = gi l j := by simp [gi, List.getD, Ne.symm e]
    rw [e2]; exact h j hj
section
variable {w : World} {H p r : Nat} {RA : Option Addr} {len rc : Nat} {l : List F} {A : Option Addr} {n c : Nat} {u : Un} {m : Nat} {x : Value}
set_option maxHeartbeats 4000000 in
theorem lengthCodes_c {k : Nat} (h : UnP w H p r RA len rc l A n c u m x) (hk : k ≤ 19) :
    Calls Tryd.prog 49 #[.pointer (some ⟨p, 0, none⟩), .int .i64 k] w fun e w' =>
      (∃ z, (ownF l (ordN.take k) (List.replicate 19 0) u = .error z ∨ ∃ own u', ownF l (ordN.take k) (List.replicate 19 0) u = .ok (own, u') ∧ errC own own.length = z ∧ z ≠ 0) ∧ e = .panicked [{ v := .iface 24 (.int .i64 (z : Nat)), recovered := false }] ∧ UOut p r (Value.slice A n c).ownBlock (Value.slice A n c).ownBlock w w') ∨
      (∃ own u' q, ownF l (ordN.take k) (List.replicate 19 0) u = .ok (own, u') ∧ errC own own.length = 0 ∧ e = .returned (.pointer (some ⟨q, 0, none⟩)) ∧ Tbl w' p r (Value.slice A n c).ownBlock q own ∧ UnP w' H p r RA len rc l A n c u' m x ∧ UOut p r (Value.slice A n c).ownBlock (Value.slice A n c).ownBlock w w') := by
  obtain ⟨i0, hi, hz0, hz1, hz2⟩ := info_parts info_int
  have hlo := h.blk.lt
  have hlr := h.rd.lt
  have hHw := h.here
  have HA : Hid (∀ g, (Value.slice A n c).ownBlock = some g → g < w.heap.size) := fun g hg => (h.own.lt g hg).2
  have HH := Lib.hid h
  clear h
  go_enter Tryd.func49, Tryd.ntmps49
  go_wp2_with fail
  refine (Order_c w).mono ?_
  rintro e w1 ⟨rfl, rfl⟩
  have HOR := Lib.hid (ordV_row w)
  have hsz := ordV_size w
  have HB1 := Lib.hid (ordV_below w)
  generalize ordV w = w1 at *
  obtain ⟨go, hgo⟩ : ∃ go, go = w.heap.size := ⟨_, rfl⟩
  rw [← hgo] at HOR ⊢
  have HGO := Lib.hid hgo
  have hgw : go < w1.heap.size := by omega
  have hbs : w.heap.size ≤ w1.heap.size := by omega
  have HSZ := Lib.hid hsz
  clear hgo hsz
  go_wp2_with (at_make; refine wpList_make_full _ rfl _ _ 35 rfl w1.heap.size 3 i0 (.int .i64 0) 1 Tryd.underlying35 hi hz0 hz1 _ _ _ _ 19 rfl rfl rfl rfl (by rw [hz2]; omega) (by unfold maxLen; omega) (Nat.le_refl _) ?_; intro w2 hown2 hgrow2)
  rw [made_iC] at hown2
  have HB2 : Hid (Below w1.heap.size w1 w2) := (Below.refl _ w1).grown hgrow2 (Nat.le_refl _) (fun k hk => by cases hk)
  have HOR2 := Lib.hid (HOR.out.below HB2.out)
  have HB12 : Hid (Below w.heap.size w w2) := HB1.out.trans (HB2.out.mono hbs)
  have HO2 : Hid (UOut p r (Value.slice A n c).ownBlock (Value.slice A n c).ownBlock w w2) := UOut.ofBelow HB12.out
  have HU2 := Lib.hid (HH.out.below HB12.out)
  obtain ⟨gl, hgl⟩ : ∃ gl, gl = w1.heap.size := ⟨_, rfl⟩
  rw [← hgl] at hown2 ⊢
  have hne : go ≠ gl := by omega
  have hglw : w.heap.size ≤ gl := by omega
  have hgow : w.heap.size ≤ go := by have := HGO.out; omega
  have HOWN2 := Lib.hid hown2
  clear hown2 hgrow2 hgl HB2 HB12
  have hki : ¬ (19 : Int) < (k : Int) := by omega
  have hki2 : (k : Int) ≤ 19 := by omega
  go_wp2
  go_loopw [17] (fun iv wr => ∃ (i : Nat) (own : List Int) (uu : Un), i ≤ k ∧ iv = .int .i64 i ∧ Hid (own.length = 19) ∧ Hid (Small own) ∧ Hid (wr.ownsRow gl 3 1 (.slice (some ⟨gl, 0, none⟩) 19 19) 19 (iC own)) ∧ Hid (IRow wr (some ⟨go, 0, none⟩) 19 .i64 ordL) ∧ Hid (UnP wr H p r RA len rc l A n c uu m x) ∧ Hid (UOut p r (Value.slice A n c).ownBlock (Value.slice A n c).ownBlock w wr) ∧ Hid (ownF l ((ordN.take k).drop i) own uu = ownF l (ordN.take k) (List.replicate 19 0) u)) (fun iv _ => k - (intOf iv).toNat)
  case atStart => exact ⟨0, List.replicate 19 0, u, by omega, rfl, rfl, (by unfold Hid Small; decide +kernel), HOWN2, HOR2, HU2, HO2, rfl⟩
  case round =>
    obtain ⟨i, own, uu, hik, rfl, hol, hsm, hown, hor, hU, hO, hF⟩ := hrel
    by_cases hlt : i < k
    · have hik2 : (i : Int) < (k : Int) := by omega
      obtain ⟨b1, o1, e1, _, q1⟩ := hor.out.at_ (i := i) (by omega)
      injection e1 with e1
      injection e1 with e1 e2 _
      obtain rfl := e1
      obtain rfl := e2
      obtain ⟨hs1, hs2⟩ := ordN_at (i := i) (by omega)
      obtain ⟨s, hs⟩ : ∃ s, s = ordN.getD i 0 := ⟨_, rfl⟩
      rw [hs1, ← hs, Nat.zero_add] at q1
      rw [← hs] at hs2
      have hF2 : Hid (ownF l ((ordN.take k).drop i) own uu = bnd (numF l 3 uu) fun q => ownF l ((ordN.take k).drop (i + 1)) (own.set s (q.1 : Int)) q.2) := by
        unfold Hid
        rw [ordN_drop hlt hk, ← hs]
        rfl
      have HN := Lib.hid (num_c hU.out 3 (by omega))
      have hs19 : (s : Int) < 19 := by omega
      clear hs1 hs
      go_wp2_with fail
      refine HN.out.mono ?_
      rintro e w3 (⟨z, g1, rfl, g2⟩ | ⟨v, u1, g1, hv, rfl, g2, g3⟩)
      · have HE : Hid (ownF l (ordN.take k) (List.replicate 19 0) u = .error z) := by unfold Hid; rw [← hF.out, hF2.out, g1]; rfl
        have HO3 := Lib.hid (hO.out.trans g2)
        clear g1 g2
        go_wp2
        exact ⟨rfl, .inl ⟨z, .inl HE.out, rfl, HO3.out⟩⟩
      · have hO3 := hO.out.trans g3
        have hown3 := own_uout hown.out g3 (by omega) (by omega) (fun g hg => by have := HA.out g hg; omega)
        have hc3 := hown3.cellAt s (by omega)
        have f3 := hown3.frozenAt s
        have hst := Lib.hid (hown3.stored s (.int .i64 (v : Nat)))
        rw [iC_at (by rw [hol.out]; omega)] at hc3
        have hor3 := g3.irow hor.out (fun b o e => by injection e with e; injection e with e; subst e; exact ⟨by omega, by omega, fun e2 => by have := HA.out _ e2; omega⟩)
        have hF3 : Hid (ownF l ((ordN.take k).drop (i + 1)) (own.set s (v : Int)) u1 = ownF l (ordN.take k) (List.replicate 19 0) u) := by unfold Hid; rw [← hF.out, hF2.out, g1]; rfl
        have hv8 : v < 8 := hv
        have hbs4 : Below w.heap.size w3 (w3.setCell ⟨gl, s, none⟩ (.int .i64 (v : Nat))) := (Below.refl _ _).setCell hglw _
        have hU4 : Hid (UnP (w3.setCell ⟨gl, s, none⟩ (.int .i64 (v : Nat))) H p r RA len rc l A n c u1 m x) := g2.keepB hHw HA.out hbs4
        have hO4 : Hid (UOut p r (Value.slice A n c).ownBlock (Value.slice A n c).ownBlock w (w3.setCell ⟨gl, s, none⟩ (.int .i64 (v : Nat)))) := hO3.thenB hbs4
        have hor4 : Hid (IRow (w3.setCell ⟨gl, s, none⟩ (.int .i64 (v : Nat))) (some ⟨go, 0, none⟩) 19 .i64 ordL) := by
          refine ⟨hor3.len, hor3.max, fun hn => ?_, hor3.wf⟩
          obtain ⟨b, o, e, hl, hc⟩ := hor3.cells hn
          refine ⟨b, o, e, by simpa [World.setCell] using hl, fun j hj => ?_⟩
          injection e with e
          injection e with e _ _
          rw [World.cell?_of_block (a := ⟨b, o + j, none⟩) (Go.Deep.blk_setCell_other w3 _ _ b (by show b ≠ gl; omega))]
          exact hc j hj
        have hown4 : Hid ((w3.setCell ⟨gl, s, none⟩ (.int .i64 (v : Nat))).ownsRow gl 3 1 (.slice (some ⟨gl, 0, none⟩) 19 19) 19 (iC (own.set s (v : Int)))) := by
          unfold Hid
          rw [← iC_set]
          exact hst.out.1
        have hsm4 : Hid (Small (own.set s (v : Int))) := hsm.out.set (by omega) s
        have hol4 : Hid ((own.set s (v : Int)).length = 19) := by unfold Hid; rw [List.length_set]; exact hol.out
        clear g1 g2 g3 hO3 hown3 hor3 hv hbs4
        generalize gi own s = y at hc3
        go_wp2
        go_roundw
        case rel => exact ⟨i + 1, _, u1, by omega, by go_num, hol4, hsm4, hown4, hor4, hU4, hO4, hF3⟩
        case measure => simp [intOf]; omega
    · obtain rfl : i = k := by omega
      have hE : Hid (ownF l (ordN.take i) (List.replicate 19 0) u = .ok (own, uu)) := by unfold Hid; rw [← hF.out, ordN_end i hk]; rfl
      have hrow := IRow.ofOwn hown.out (by have := hsm.out.wf; rwa [hol.out] at this) (by unfold maxLen; omega)
      have HT := Lib.hid (newTable_c (some ⟨gl, 0, none⟩) 19 19 own wr hrow)
      rw [← hol.out] at HT
      clear hrow
      have HT2 := Lib.hid (newTable_c (some ⟨gl, 0, none⟩) 19 19 own wr (IRow.ofOwn hown.out (by have := hsm.out.wf; rwa [hol.out] at this) (by unfold maxLen; omega)))
      go_wp2_with fail
      refine HT2.out.mono ?_
      rintro e w3 (⟨g1, rfl, g2⟩ | ⟨g1, q, gc, LA, lc, S, rfl, g2, g3, g4⟩)
      · have HE2 : Hid (errC own own.length = errC own 19 ∧ errC own 19 ≠ 0) := by unfold Hid; rw [hol.out]; exact ⟨rfl, g1⟩
        have HO3 := Lib.hid (hO.out.trans (UOut.ofBelow g2))
        clear g1 g2
        go_wp2
        exact ⟨rfl, .inl ⟨_, .inr ⟨own, uu, hE.out, HE2.out.1, HE2.out.2⟩, rfl, HO3.out⟩⟩
      · have HE2 : Hid (errC own own.length = 0) := by unfold Hid; rw [hol.out]; exact g1
        have HO3 := Lib.hid (hO.out.trans (UOut.ofBelow g4))
        have HU3 := Lib.hid (hU.out.below g4)
        have hlw := hO.out.size
        have HTB : Hid (Tbl w3 p r (Value.slice A n c).ownBlock q own) := ⟨_, gc, LA, lc, S, g2, g3.far (by omega), g3.far (by omega), fun g hg => g3.far (by have := HA.out g hg; omega)⟩
        clear g1 g2 g3 g4
        go_wp2
        go_ret
        exact .inr ⟨own, uu, q, hE.out, HE2.out, rfl, HTB.out, HU3.out, HO3.out⟩
end
end Go.Proofs.YtbphbogolffanaaDoor
