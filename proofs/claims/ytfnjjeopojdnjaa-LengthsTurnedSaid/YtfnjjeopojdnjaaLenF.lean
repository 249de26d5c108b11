/-
  THE TIERS OF COINS, AND WHAT IS BOUGHT. No conditions but how many symbols there are.
-/
import Derived.Test.YtfnjjeopojdnjaaLenC
import Derived.Test.YtfnjjeopojdnjaaLenE
import Derived.Lib.MinMax
namespace Go.Proofs.Ytfnjjeopojdnjaa
open Go.RowKit
set_option maxRecDepth 100000
set_option linter.unusedVariables false

theorem pairs_le : ∀ {T : List (Nat × Bool)} {v : Nat}, (∀ c ∈ T, c.1 ≤ v) → ∀ x ∈ pairsC T, x ≤ v + v
  | [], _, _ => fun x hx => by cases hx
  | [_], _, _ => fun x hx => by cases hx
  | a :: b :: T, v, h => fun x hx => by
    have h1 := h a (by simp)
    have h2 := h b (by simp)
    rcases List.mem_cons.1 hx with rfl | hx
    · omega
    · exact pairs_le (fun c hc => h c (by simp [hc])) x hx
theorem tier_small {W : List Nat} {m : Nat} (hW : ∀ x ∈ W, x ≤ m) : ∀ t, ∀ c ∈ tierC W t, c.1 ≤ m * 2 ^ t := by
  intro t
  induction t with
  | zero =>
    intro c hc
    obtain ⟨x, hx, rfl⟩ := List.mem_map.1 hc
    simpa using hW x hx
  | succ t ih =>
    intro c hc
    have h0 : 0 < 2 ^ t := Nat.pow_pos (by decide)
    have h1 : m * 2 ^ (t + 1) = m * 2 ^ t + m * 2 ^ t := by rw [Nat.pow_succ, ← Nat.mul_assoc]; omega
    rcases merge_mem _ _ c hc with h | h
    · have h2 := hW _ h
      have h3 : m * 1 ≤ m * 2 ^ t := Nat.mul_le_mul_left m h0
      omega
    · have h2 := pairs_le ih _ h
      omega
theorem cw_mem {T : List (Nat × Bool)} {k : Nat} (h : k < T.length) : ∃ c ∈ T, cw T k = c.1 := ⟨T[k], List.getElem_mem h, by unfold cw; simp [List.getD_eq_getElem?_getD, h]⟩
theorem tier_len_le (W : List Nat) : ∀ t, (tierC W t).length ≤ 2 * W.length := by
  intro t
  induction t with
  | zero => show (W.map _).length ≤ _; rw [List.length_map]; omega
  | succ t ih => rw [tier_length]; omega
theorem pks_len (T : List (Nat × Bool)) : (pairsC T).length = T.length / 2 := pairsC_length T
theorem packs_c (b off n₀ cap : Nat) (T : List (Nat × Bool)) (w : World) (h : CRow w (some ⟨b, off, none⟩) n₀ (cw T) (cq T)) (hT : T.length = n₀) (hlt : b < w.heap.size) (hcap : n₀ ≤ cap) (hn : n₀ ≤ 2000) (hw : ∀ k, k < n₀ → cw T k < 1152921504606846976) :
    Calls Try.prog 36 #[.slice (some ⟨b, off, none⟩) n₀ cap] w fun e W' => ∃ A c, e = .returned (.slice A (n₀ / 2) c) ∧ CRow W' A (n₀ / 2) (wt (pairsC T)) (fun _ => false) ∧ Below w.heap.size w W' := by
  refine (callsIn_wide.1 (packs_in b off n₀ cap T w h hT hlt hcap hn hw)).mono ?_
  rintro e W' ⟨v, rfl, ho, hb⟩
  have hl : n₀ / 2 ≤ (pairsC T).length := by rw [pks_len, hT]; exact Nat.le_refl _
  rcases ho.2 with ⟨hv, h0⟩ | ⟨g, c, cur, hv, _⟩
  · subst hv
    rw [h0]
    exact ⟨none, 0, rfl, CRow.nil_ _ _ _ _, hb⟩
  · subst hv
    exact ⟨_, c, rfl, CRow.pks (CRow.ofOwn ho) hl, hb⟩
theorem info_coins : (Try.prog.info? 41).map (fun i => (i.zero, i.size, i.bytes)) = some (some (.slice none 0 0), 1, 24) := by kernel_rfl
theorem CRow.kept {w w' : World} {b off n : Nat} {f : Nat → Nat} {q : Nat → Bool} {row : Option Nat} (h : CRow w (some ⟨b, off, none⟩) n f q) (hg : w.grownBy w' row) (hne : row ≠ some b) : CRow w' (some ⟨b, off, none⟩) n f q := ⟨fun hn => by
  obtain ⟨b', off', e, hl, hc⟩ := h.cells hn
  injection e with e
  injection e with e e'
  subst e e'
  have hs := hg.size
  exact ⟨b, off, rfl, by omega, fun k hk => ⟨(hg.cell_far ⟨b, off + k * 2, none⟩ hl (fun e => hne e.symm)).trans (hc k hk).1, (hg.cell_far ⟨b, off + k * 2 + 1, none⟩ hl (fun e => hne e.symm)).trans (hc k hk).2⟩⟩⟩
/-- the tiers' row, and each of its rows -/
structure Tiers (w : World) (g t : Nat) (W : List Nat) (G O C : Nat → Nat) : Prop where
  row : ∀ r, r < t → G r < w.heap.size ∧ G r ≠ g ∧ (tierC W r).length ≤ C r ∧ CRow w (some ⟨G r, O r, none⟩) (tierC W r).length (cw (tierC W r)) (cq (tierC W r))
def topT (W : List Nat) (G O C : Nat → Nat) (t : Nat) : List Value := (List.range t).map fun r => .slice (some ⟨G r, O r, none⟩) (tierC W r).length (C r)
theorem topT_succ (W : List Nat) (G O C : Nat → Nat) (t : Nat) : topT W G O C (t + 1) = topT W G O C t ++ [.slice (some ⟨G t, O t, none⟩) (tierC W t).length (C t)] := by simp [topT, List.range_succ]
theorem topT_at (W : List Nat) (G O C : Nat → Nat) {t r : Nat} (h : r < t) : (topT W G O C t)[r]? = some (.slice (some ⟨G r, O r, none⟩) (tierC W r).length (C r)) := by simp [topT, h]
theorem topT_congr {W : List Nat} {G O C G' O' C' : Nat → Nat} {t : Nat} (h : ∀ r, r < t → G r = G' r ∧ O r = O' r ∧ C r = C' r) : topT W G O C t = topT W G' O' C' t := by
  unfold topT
  refine List.map_congr_left fun r hr => ?_
  obtain ⟨h1, h2, h3⟩ := h r (List.mem_range.1 hr)
  rw [h1, h2, h3]
theorem topT_length (W : List Nat) (G O C : Nat → Nat) (t : Nat) : (topT W G O C t).length = t := by simp [topT]
def upd (f : Nat → Nat) (t v : Nat) : Nat → Nat := fun r => if r = t then v else f r
theorem upd_lt {f : Nat → Nat} {t v r : Nat} (h : r < t) : upd f t v r = f r := if_neg (by omega)
theorem upd_at (f : Nat → Nat) (t v : Nat) : upd f t v t = v := if_pos rfl
theorem one_cellV (w : World) (v : Value) (t : TypeId) : ∀ j u, [v][j]? = some u → (w.alloc (.cells #[v] t)).cell? ((⟨w.heap.size, 0, none⟩ : Addr).add j) = some u := by
  have h := World.news_of_block (cs := #[v]) (t := t) (fr := (0, 0)) (heap_alloc_new w (.cells #[v] t))
  exact h
theorem own_blk {g c t b : Nat} (h : (Value.slice (some ⟨g, 0, none⟩) t c).ownBlock = some b) : g = b := by simpa [Value.ownBlock] using h
set_option maxHeartbeats 4000000 in
theorem tiers_c (b off n L : Nat) (W : List Nat) (w : World) (h : CRow w (some ⟨b, off, none⟩) n (cw (lvs W)) (cq (lvs W))) (hb : b < w.heap.size) (hWn : n = W.length) (hn : n ≤ 400) (hL : 1 ≤ L) (hL2 : L ≤ 15) (hW : ∀ x ∈ W, x ≤ 1073741824) :
    Calls Try.prog 31 #[.slice (some ⟨b, off, none⟩) n n, .int .i64 L] w fun e w' => ∃ g c, e = .returned (.slice (some ⟨g, 0, none⟩) L c) ∧ ∃ G O C, w'.ownsRow w.heap.size 41 1 (.slice (some ⟨g, 0, none⟩) L c) L (topT W G O C L) ∧ Tiers w' g L W G O C ∧ Below w.heap.size w w' := by
  obtain ⟨i0, hi, hz0, hz1, hz2⟩ := info_parts info_coins
  have hlv := CRow.lvs h (by omega)
  have HW := Lib.hid hW
  have HWN := Lib.hid hWn
  clear hW hWn
  go_enter Try.func31, Try.ntmps31
  go_wp2
  go_loopw [5] (fun va wr => ∃ (t g c : Nat) (G O C : Nat → Nat), 1 ≤ t ∧ t ≤ L ∧ va = .slice (some ⟨g, 0, none⟩) t c ∧ g < wr.heap.size ∧ wr.ownsRow w.heap.size 41 1 (.slice (some ⟨g, 0, none⟩) t c) t (topT W G O C t) ∧ Tiers wr g t W G O C ∧ Below w.heap.size w wr)
    (fun va _ => match va with | .slice _ t _ => L - t | _ => 0)
  case atStart =>
    refine ⟨1, w.heap.size, 1, fun _ => b, fun _ => off, fun _ => n, Nat.le_refl _, hL, rfl, by simp, ?_, ⟨fun r hr => ?_⟩, (Below.refl _ _).alloc (Nat.le_refl _) _⟩
    · refine ⟨rfl, .inr ⟨w.heap.size, 1, _, rfl, Nat.le_refl _, heap_alloc_new w _, Nat.le_refl _, by unfold maxLen; omega, rfl, ?_⟩⟩
      have e : (tierC W 0).length = n := by show (W.map _).length = _; rw [List.length_map, HWN.out]
      unfold topT
      simp [e]
    · obtain rfl : r = 0 := by omega
      have e : (tierC W 0).length = n := by show (W.map _).length = _; rw [List.length_map, HWN.out]
      rw [e]
      exact ⟨by simp; omega, by omega, Nat.le_refl _, h.below ((Below.refl _ _).alloc (Nat.le_refl _) _)⟩
  case round =>
    obtain ⟨t, g, c, G, O, C, ht, htL, rfl, hgw, hown, hT, hbel⟩ := hrel
    by_cases hlt : t < L
    · have hti : (t : Int) < L := by omega
      obtain ⟨s, hs⟩ : ∃ s, t = s + 1 := ⟨t - 1, by omega⟩
      have hsi : (t : Int) - 1 = (s : Int) := by omega
      have hst : s < t := by omega
      have hsti : (s : Int) < (t : Int) := by omega
      have hcell := (hown.cellAt s (by omega)).trans (topT_at W G O C hst)
      obtain ⟨hG1, hG2, hG3, hG4⟩ := hT.row s hst
      have hlen := tier_len_le W s
      have hbnd : ∀ k, k < (tierC W s).length → cw (tierC W s) k < 1152921504606846976 := fun k hk => by
        obtain ⟨x, hx, e⟩ := cw_mem hk
        rw [e]
        have h1 := tier_small HW.out s x hx
        have h2 : 2 ^ s ≤ 2 ^ 15 := Nat.pow_le_pow_right (by decide) (by omega)
        have h3 : (2 : Nat) ^ 15 = 32768 := rfl
        have h4 : 1073741824 * 2 ^ s ≤ 1073741824 * 32768 := Nat.mul_le_mul_left _ (by omega)
        omega
      have hW400 : W.length ≤ 400 := by have := HWN.out; omega
      obtain ⟨q, hq⟩ : ∃ q, q = (tierC W s).length := ⟨_, rfl⟩
      rw [← hq] at hcell hG3 hG4 hlen hbnd
      have HP := Lib.hid (packs_c (G s) (O s) q (C s) (tierC W s) wr hG4 hq.symm hG1 hG3 (by omega) hbnd)
      have HQ := Lib.hid hq
      have HS := Lib.hid hs
      clear hG3 hG4 hbnd hq hs
      obtain ⟨gs, hgs⟩ : ∃ x, x = G s := ⟨_, rfl⟩
      obtain ⟨os, hos⟩ : ∃ x, x = O s := ⟨_, rfl⟩
      obtain ⟨cs, hcs⟩ : ∃ x, x = C s := ⟨_, rfl⟩
      rw [← hgs, ← hos, ← hcs] at hcell HP
      clear hgs hos hcs
      go_wp2_with fail
      refine HP.out.mono ?_
      rintro e w2 ⟨PA, pc, rfl, hpk, hb2⟩
      have hbel2 := hbel.trans (hb2.mono hbel.size)
      have hown2 := own_below hown hb2
      have hmer : Hid (mergeC W (pairsC (tierC W s)) = tierC W t) := by unfold Hid; rw [HS.out]; rfl
      have hplen : q / 2 = (pairsC (tierC W s)).length := by rw [pks_len, HQ.out]
      have HM := Lib.hid (merged_c b off n W PA (q / 2) pc (pairsC (tierC W s)) w2 (hlv.below hbel2) (by have := hbel2.size; omega) hpk HWN.out hplen hn (by omega))
      have hq2 : Hid (n + q / 2 = (tierC W t).length) := by
        unfold Hid
        rw [← hmer.out, mergeC_length, ← hplen, HWN.out]
      clear hplen hpk
      generalize q / 2 = q2 at *
      go_wp2_with fail
      refine HM.out.mono ?_
      rintro e w3 ⟨g3, c3, rfl, hown3, hb3⟩
      rw [hq2.out, hmer.out] at hown3
      rw [hq2.out]
      have hbel3 := hbel2.trans (hb3.mono hbel2.size)
      have hown4 := own_below hown2 hb3
      have hs3 := hbel3.size
      have hg3 := hown3.lt g3 rfl
      have hw23 : wr.heap.size ≤ w2.heap.size := hb2.size
      have hw33 : w2.heap.size ≤ w3.heap.size := hb3.size
      obtain ⟨tl, htl⟩ : ∃ tl, tl = (tierC W t).length := ⟨_, rfl⟩
      have htl2 := tier_len_le W t
      rw [← htl] at hown3 htl2 ⊢
      have HTL := Lib.hid htl
      clear htl
      go_wp2_with (at_builtin; refine wpList_append_lies _ rfl _ _ 47 rfl w.heap.size 41 i0 (.slice none 0 0) 1 24 Try.underlying47 hi hz0 hz1 hz2 rfl (by decide) (.slice (some ⟨g, 0, none⟩) t c) t (topT W G O C t) rfl (hown4.alloc _) ⟨w3.heap.size, 0, none⟩ 1 1 [.slice (some ⟨g3, 0, none⟩) tl c3] rfl rfl (one_cellV w3 _ _) (by intro u hu; simp at hu; subst hu; rfl) (by omega) (by unfold maxLen; omega) (by omega) (by simp; omega) _ rfl ?_; intro gg cap w5 hown5 hgrow hat hlt5)
      go_wp2
      go_roundw
      case rel =>
        have hgg : gg = g ∨ gg = w3.heap.size + 1 := by
          rcases hat with h | h
          · left
            have : g = gg := by simpa [Value.ownBlock] using h
            omega
          · right
            rw [h]
            simp
        have hcap3 : tl ≤ c3 := by
          rcases hown3.2 with ⟨hv, _⟩ | ⟨g', cap', cur, hv, _, _, h1, _⟩
          · cases hv
          · injection hv with _ _ hv
            omega
        have hcr := CRow.ofOwn hown3
        refine ⟨t + 1, gg, cap, upd G t g3, upd O t 0, upd C t c3, by omega, by omega, by go_num, hlt5, ?_, ⟨fun r hr => ?_⟩, (hbel3.alloc hs3 _).grown hgrow (by simp; omega) (fun k hk => by cases hk; exact (hown.lt _ rfl).1)⟩
        · rw [topT_succ, upd_at, upd_at, upd_at, topT_congr (G' := G) (O' := O) (C' := C) (fun r hr => ⟨upd_lt hr, upd_lt hr, upd_lt hr⟩), ← HTL.out]
          exact hown5
        · have hgs := hgrow.size
          simp at hgs
          rcases (show r < t ∨ r = t by omega) with h1 | rfl
          · obtain ⟨a1, a2, a3, a4⟩ := hT.row r h1
            rw [upd_lt h1, upd_lt h1, upd_lt h1]
            refine ⟨by omega, by omega, a3, ?_⟩
            exact CRow.kept (CRow.below (CRow.below (CRow.below a4 hb2) hb3) ((Below.refl _ _).alloc (Nat.le_refl _) _)) hgrow (fun e => a2 (own_blk e).symm)
          · rw [upd_at, upd_at, upd_at, ← HTL.out]
            refine ⟨by omega, by omega, hcap3, ?_⟩
            exact CRow.kept (CRow.below hcr ((Below.refl _ _).alloc (Nat.le_refl _) _)) hgrow (fun e => by have h5 := (hown.lt g rfl).2; have h6 := own_blk e; have h7 := hg3.1; omega)
      case measure => show L - (t + 1) < L - t; omega
    · obtain rfl : t = L := by omega
      have hti : ¬ (t : Int) < t := by omega
      go_wp2
      go_ret
      exact ⟨g, c, rfl, G, O, C, hown, hT, hbel⟩
end Go.Proofs.Ytfnjjeopojdnjaa
