/-
  THE DOCUMENT's OWN ANSWERS FOR LAYER 6: Blocks, Same; its Join of two rows, and Copy. Rows of at most 2^20 bytes.
-/
import Derived.Test.YtbgdoemealddpaaDoorCrc6
import Derived.Laws.AppendOwnNone
import Derived.Deep.QuietTactic
import Derived.BigQuiet
namespace Go.Proofs.YtbgdoemealddpaaDoor
open Go.RowKit
set_option maxRecDepth 100000
set_option linter.unusedVariables false

theorem info_u8c : (Tryd.prog.info? 5).map (fun i => (i.zero, i.size, i.bytes)) = some (some (.int .u8 0), 1, 1) := by kernel_rfl
def gg (l : List G) (i : Nat) : G := l.getD i 0
theorem gs_at {l : List G} {i : Nat} (h : i < l.length) : (gs l)[i]? = some (.int .u32 (gg l i).n) := by
  simp [gs, gg, h]
/-- the slice at A, of n words, reads as l -/
def GRow (w : World) (A : Option Addr) (n : Nat) (l : List G) : Prop :=
  l.length = n ∧ n ≤ maxLen ∧ (0 < n → ∃ b off, A = some ⟨b, off, none⟩ ∧ b < w.heap.size ∧ ∀ i, i < n → w.cell? ⟨b, off + i, none⟩ = some (.int .u32 (gg l i).n))
section
variable {w w' : World} {A : Option Addr} {n : Nat} {l : List G}
theorem GRow.max (h : GRow w A n l) : n ≤ 9223372036854775807 := by have := h.2.1; unfold maxLen at this; exact this
theorem GRow.at_ (h : GRow w A n l) {k : Nat} (hk : k < n) : ∃ b off, A = some ⟨b, off, none⟩ ∧ b < w.heap.size ∧ w.cell? ⟨b, off + k, none⟩ = some (.int .u32 (gg l k).n) := by
  obtain ⟨b, off, e, hb, hc⟩ := h.2.2 (by omega)
  exact ⟨b, off, e, hb, hc k hk⟩
theorem GRow.below (h : GRow w A n l) (hb : Below w.heap.size w w') : GRow w' A n l :=
  ⟨h.1, h.2.1, fun hn => by
    obtain ⟨b, off, e, hl, hc⟩ := h.2.2 hn
    exact ⟨b, off, e, by have := hb.size; omega, fun i hi => (hb.cell (p := ⟨b, off + i, none⟩) hl).trans (hc i hi)⟩⟩
theorem GRow.drewN (h : GRow w A n l) (k : Nat) : GRow (w.drewN k) A n l := h
theorem GRow.nil (w : World) (A : Option Addr) : GRow w A 0 [] := ⟨rfl, by unfold maxLen; omega, fun h => absurd h (by omega)⟩
theorem GRow.of_own {base c : Nat} {e : TypeId} (h : w.ownsRow base e 1 (.slice A n c) n (gs l)) : GRow w A n l := by
  have hl : l.length = n := by have := h.1; rw [gs_length] at this; omega
  rcases h.2 with ⟨hv, h0⟩ | ⟨g, cap, cur, hv, hb, hg, hnc, hcm, hsz, ht⟩
  · subst h0
    exact ⟨hl, by unfold maxLen; omega, fun hn => absurd hn (by omega)⟩
  · injection hv with hA _ hc
    subst hA hc
    refine ⟨hl, Nat.le_trans hnc hcm, fun hn => ⟨g, 0, rfl, (h.lt g rfl).2, fun i hi => ?_⟩⟩
    rw [Nat.zero_add, h.cellAt i (by omega), gs_at (by omega)]
end
theorem g_bne_same {a b : G} (h : a = b) : ((a.n : Int) != (b.n : Int)) = false := by rw [h]; simp
theorem g_beq_same {a b : G} (h : a = b) : ((a.n : Int) == (b.n : Int)) = true := by rw [h]; simp
theorem own_slice {w : World} {base n : Nat} {e : TypeId} {v : Value} {xs : List Value} (h : w.ownsRow base e 1 v n xs) : ∃ A c, v = .slice A n c := by
  rcases h.2 with ⟨rfl, rfl⟩ | ⟨g, cap, _, rfl, _⟩
  · exact ⟨none, 0, rfl⟩
  · exact ⟨_, cap, rfl⟩
theorem own_caps6 {w : World} {base n c g : Nat} {e : TypeId} {xs : List Value} (h : w.ownsRow base e 1 (.slice (some ⟨g, 0, none⟩) n c) n xs) : n ≤ c ∧ c ≤ 9223372036854775807 := by
  rcases h.2 with ⟨e, _⟩ | ⟨g', cap', cur, e, _, _, h1, h2, _⟩
  · injection e with e; cases e
  · injection e with _ _ e; subst e; exact ⟨h1, by unfold maxLen at h2; exact h2⟩
set_option maxHeartbeats 400000 in
theorem GSame_c (A B : Option Addr) (n ca cb : Nat) (a b : List G) (w : World) (ha : GRow w A n a) (hb : GRow w B n b) (he : a = b) :
    Calls Tryd.prog 37 #[.slice A n ca, .slice B n cb] w fun e w' => e = .returned (.bool true) ∧ ∃ q, w' = w.drewN q := by
  subst he
  have hm := ha.max
  go_enter Tryd.func37, Tryd.ntmps37
  go_wp2
  go_loopw [5] (fun i wr => ∃ k q : Nat, k ≤ n ∧ i = .int .i64 k ∧ wr = w.drewN q) (fun i _ => n - (intOf i).toNat)
  case atStart => exact ⟨0, 0, by omega, rfl, rfl⟩
  case round =>
    obtain ⟨k, q, hk, rfl, rfl⟩ := hrel
    by_cases hlt : k < n
    · obtain ⟨b1, o1, rfl, _, h1⟩ := ha.at_ hlt
      obtain ⟨b2, o2, rfl, _, h2⟩ := hb.at_ hlt
      have hkn : (k : Int) < n := by omega
      go_wp2
      go_quiet (fail)
      go_wp2
      go_roundw
      case rel => exact ⟨k + 1, _, by omega, by go_num, rfl⟩
      case measure => simp [intOf]; omega
    · go_wp2
      go_ret
      exact ⟨rfl, q, rfl⟩
theorem one_cell6 (w : World) (v : Value) (t : TypeId) : ∀ j u, [v][j]? = some u → (w.alloc (.cells #[v] t)).cell? ((⟨w.heap.size, 0, none⟩ : Addr).add j) = some u := by
  intro j u hu
  have hj : j = 0 := by
    have := (List.getElem?_eq_some_iff.1 hu).1
    simpa using this
  subst hj
  simp at hu
  subst hu
  exact (Boxed.new w t v).cell
theorem Row.from_ {w : World} {b off n : Nat} {l : List F} (h : Row w (some ⟨b, off, none⟩) n l) {p m : Nat} (hp : p + m ≤ n) : Row w (some ⟨b, off + p, none⟩) m ((l.drop p).take m) := by
  have hl := h.len
  refine ⟨by simp; omega, by have := h.2.1; omega, fun hn => ?_⟩
  obtain ⟨b', o', e, hb, hc⟩ := h.2.2 (by omega)
  injection e with e
  injection e with e1 e2
  subst e1 e2
  refine ⟨b, off + p, rfl, hb, fun i hi => ?_⟩
  rw [Nat.add_assoc, hc (p + i) (by omega), gt_lt (by omega), gt_lt (by simp; omega)]
  simp
theorem RefBlocks_none (A : Option Addr) (n cap : Nat) (s : Int) (w : World) (hs : s < 1) :
    Calls Tryd.prog 38 #[.slice A n cap, .int .i64 s] w fun e W' => e = .returned (.slice (some ⟨w.heap.size, 0, none⟩) 0 0) ∧ Below w.heap.size w W' := by
  have h1 : ¬ (1 : Int) ≤ s := by omega
  go_enter Tryd.func38, Tryd.ntmps38
  go_wp2
  go_loopw [5] (fun v wr => v = .slice (some ⟨w.heap.size, 0, none⟩) 0 0 ∧ Below w.heap.size w wr) (fun _ _ => 0)
  case atStart => exact ⟨rfl, (Below.refl _ _).alloc (Nat.le_refl _) _⟩
  case round =>
    obtain ⟨rfl, hb⟩ := hrel
    go_wp2
    go_ret
    exact ⟨rfl, hb⟩
set_option maxHeartbeats 4000000 in
theorem RefBlocks_c (A : Option Addr) (n cap s : Nat) (l : List F) (w : World) (h : RowIn w A n cap l) (hn : n ≤ 1048576) (hs : 0 < s) (hs2 : s ≤ 9223372036854775807) :
    Calls Tryd.prog 38 #[.slice A n cap, .int .i64 s] w fun e W' => ∃ g c, e = .returned (.slice (some ⟨g, 0, none⟩) (blkCount n s) c) ∧ W'.ownsRow w.heap.size 54 1 (.slice (some ⟨g, 0, none⟩) (blkCount n s) c) (blkCount n s) (gs (sums l s (blkCount n s))) ∧ Below w.heap.size w W' := by
  obtain ⟨i0, hi, hz0, hz1, hz2⟩ := info_parts info_u32
  have h1 : (1 : Int) ≤ s := by omega
  have hcl := h.le
  have hcm := h.max
  unfold maxLen at hcm
  have HLEN := Lib.hid h.row.len
  go_enter Tryd.func38, Tryd.ntmps38
  go_wp2
  go_loopw [5, 6] (fun v i wr => ∃ (k p g c : Nat), Hid (k ≤ blkCount n s) ∧ Hid (p = k * s) ∧ p ≤ 18446744073709551615 ∧ i = .int .i64 p ∧ v = .slice (some ⟨g, 0, none⟩) k c ∧ wr.ownsRow w.heap.size 54 1 (.slice (some ⟨g, 0, none⟩) k c) k (gs (sums l s k)) ∧ Below w.heap.size w wr) (fun _ i _ => n - (intOf i).toNat)
  case atStart => exact ⟨0, 0, _, 0, Nat.zero_le _, (Nat.zero_mul s).symm, by omega, rfl, rfl, World.ownsRow_made (e := 54) (size := 1) w #[] 0 (Nat.le_refl _) (Nat.zero_le _) rfl, (Below.refl _ _).alloc (Nat.le_refl _) _⟩
  case round =>
    obtain ⟨k, p, g, c, hk, hp, hp64, rfl, rfl, hown, hbel⟩ := hrel
    have hs0 := hbel.size
    by_cases hlt : p < n
    · have hkc : k < blkCount n s := (blkCount_lt hs).2 (by rw [← hp.out]; exact hlt)
      have hkn : k < 1048577 := by
        have h1 : k * 1 ≤ k * s := Nat.mul_le_mul_left k hs
        have := hp.out
        omega
      obtain ⟨b, off, rfl, hb, _⟩ := h.row.2.2 (by omega)
      have hrow := h.row.below hbel
      have hpn : (p : Int) < n := by omega
      have hpc : ¬ (cap - p = 0) := by omega
      obtain ⟨d, hd⟩ : ∃ d, d = n - p := ⟨_, rfl⟩
      have e1 : ((n : Int) - (p : Int)) = (d : Int) := by omega
      have e2 : n - p = d := hd.symm
      have hps : p + s ≤ 18446744073709551615 := by omega
      have hss := Lib.hid (sums_succ l s k)
      by_cases hc : s ≤ d
      · have hc1 : ¬ (d : Int) < (s : Int) := by omega
        have hblk : (l.drop p).take s = blk l s k := by unfold blk; rw [← hp.out]
        have hr := hrow.from_ (p := p) (m := s) (by omega)
        rw [hblk] at hr
        obtain ⟨pe, hpe⟩ : ∃ pe, pe = p + s := ⟨_, rfl⟩
        have hpi : (p : Int) + (s : Int) = (pe : Int) := by omega
        have hpi2 : IntKind.i64.wrap ((p : Int) + (s : Int)) = (pe : Int) := (IntWalk.i64_in _ (by omega)).trans hpi
        have hpi3 : p ≤ pe := by omega
        have hpi4 : pe ≤ cap := by omega
        have hpi5 : pe - p = s := by omega
        have hpi6 : pe ≤ n := by omega
        have hstep : Hid (pe = (k + 1) * s) := by
          have := hp.out
          unfold Hid
          rw [Nat.add_mul, Nat.one_mul, ← this]
          exact hpe
        have HK := Lib.hid hkc
        clear hkc hblk hd hpe
        go_wp2_with (first
          | (go_at_call 32; refine (RefSum_c _ _ _ _ _ hr).mono ?_; rintro e w' ⟨rfl, rfl⟩)
          | (at_builtin; refine wpList_append_lies _ rfl (.tmp 37) (.tmp 43) 56 rfl w.heap.size 54 i0 (.int .u32 0) 1 4 Tryd.underlying56 hi hz0 hz1 hz2 rfl (by decide) (.slice (some ⟨g, 0, none⟩) k c) k (gs (sums l s k)) rfl (hown.alloc _) ⟨wr.heap.size, 0, none⟩ 1 1 [.int .u32 (sum32 (blk l s k)).n] rfl rfl (one_cell6 wr _ _) (by intro u hu; simp at hu; subst hu; rfl) (by omega) (by unfold maxLen; omega) (by omega) (by simp; omega) (wr.heap.size + 1) (by simp) ?_; intro g5 c5 w5 hown5 hg5 hat5 hlt5))
        have hb5 := (hbel.alloc hs0 (.cells #[.int .u32 (sum32 (blk l s k)).n] 54)).grown hg5 (by simp; omega) (fun x hx => (hown.lt x hx).1)
        have hown6 : w5.ownsRow w.heap.size 54 1 (.slice (some ⟨g5, 0, none⟩) (k + 1) c5) (k + 1) (gs (sums l s (k + 1))) := by
          rw [hss.out, gs_append]
          exact hown5
        clear hown hbel hown5 hg5 hat5 hlt5 hr hrow
        go_wp2
        go_roundw
        case rel => exact ⟨k + 1, pe, g5, c5, HK.out, hstep.out, by omega, rfl, rfl, hown6, hb5⟩
        case measure => simp [intOf]; omega
      · have hc1 : (d : Int) < (s : Int) := by omega
        have hblk : (l.drop p).take d = blk l s k := by
          unfold blk
          rw [← hp.out, List.take_of_length_le (by simp; have := HLEN.out; omega), List.take_of_length_le (by simp; have := HLEN.out; omega)]
        have hr := hrow.from_ (p := p) (m := d) (by omega)
        rw [hblk] at hr
        have hcnt : blkCount n s = k + 1 := by
          have h2 : ¬ k + 1 < blkCount n s := fun e => by
            have h3 := (blkCount_lt hs).1 e
            rw [Nat.add_mul, Nat.one_mul] at h3
            have := hp.out
            omega
          omega
        have HCN := Lib.hid hcnt
        clear hkc hblk hd hcnt
        go_wp2_with (first
          | (go_at_call 32; refine (RefSum_c _ _ _ _ _ hr).mono ?_; rintro e w' ⟨rfl, rfl⟩)
          | (at_builtin; refine wpList_append_lies _ rfl (.tmp 29) (.tmp 34) 56 rfl w.heap.size 54 i0 (.int .u32 0) 1 4 Tryd.underlying56 hi hz0 hz1 hz2 rfl (by decide) (.slice (some ⟨g, 0, none⟩) k c) k (gs (sums l s k)) rfl (hown.alloc _) ⟨wr.heap.size, 0, none⟩ 1 1 [.int .u32 (sum32 (blk l s k)).n] rfl rfl (one_cell6 wr _ _) (by intro u hu; simp at hu; subst hu; rfl) (by omega) (by unfold maxLen; omega) (by omega) (by simp; omega) (wr.heap.size + 1) (by simp) ?_; intro g5 c5 w5 hown5 hg5 hat5 hlt5))
        have hb5 := (hbel.alloc hs0 (.cells #[.int .u32 (sum32 (blk l s k)).n] 54)).grown hg5 (by simp; omega) (fun x hx => (hown.lt x hx).1)
        have hown6 : w5.ownsRow w.heap.size 54 1 (.slice (some ⟨g5, 0, none⟩) (k + 1) c5) (k + 1) (gs (sums l s (k + 1))) := by
          rw [hss.out, gs_append]
          exact hown5
        clear hown hbel hown5 hg5 hat5 hlt5 hr hrow
        go_wp2
        go_ret
        rw [HCN.out]
        exact ⟨g5, c5, rfl, hown6, hb5⟩
    · have hfin : blkCount n s = k := by
        have h2 : ¬ k < blkCount n s := fun e => hlt (by rw [hp.out]; exact (blkCount_lt hs).1 e)
        have := hk.out
        omega
      have HF := Lib.hid hfin
      have hpn : ¬ (p : Int) < n := by omega
      clear hfin
      go_wp2
      go_ret
      rw [HF.out]
      exact ⟨g, c, rfl, hown, hbel⟩
end Go.Proofs.YtbgdoemealddpaaDoor
