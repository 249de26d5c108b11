/-
  THE CONTRACT OF systematic.firstThere. Words of at most 255 bytes.
-/
import Derived.Test.YtcodgamhgfafnaaSys3
namespace Go.Proofs.Ytcodgamhgfafnaa
open Go.RowKit
set_option maxRecDepth 100000
set_option linter.unusedVariables false

theorem Blk.alloc {w : World} {g : Nat} {t : TypeId} {C : Array Value} (h : Blk w g t C) (o : Obj) : Blk (w.alloc o) g t C := by
  unfold Blk at h ⊢
  rw [heap_alloc_old w o (h := (Array.getElem?_eq_some_iff.1 h).1)]
  exact h
theorem Blk.new1 (w : World) (o : Obj) (t : TypeId) (C : Array Value) : Blk ((w.alloc o).alloc (.cells C t)) (w.heap.size + 1) t C := by
  have h := Blk.new (w.alloc o) t C
  rw [show (w.alloc o).heap.size = w.heap.size + 1 by simp] at h
  exact h
theorem Blk.news {w : World} {g : Nat} {t : TypeId} {u : Value} (h : Blk w g t #[u]) : ∀ j v, [u][j]? = some v → w.cell? ((⟨g, 0, none⟩ : Addr).add j) = some v :=
  World.news_of_block (cs := #[u]) (fr := (0, 0)) h
theorem u8_wrap {k : Nat} (h : k < 256) : IntKind.u8.wrap (k : Int) = k := by
  simp [IntKind.wrap, IntKind.bits, IntKind.signed]
  omega
/-- behind the two appends: neither row is in the other's block -/
theorem two_apart {X Y : Value} {gA HA sz : Nat} (hX : X.ownBlock = none ∨ X.ownBlock ≠ Y.ownBlock) (hY : ∀ g, Y.ownBlock = some g → g < sz) (hA : X.ownBlock = some gA ∨ gA = HA) (hHA : sz ≤ HA) : some gA ≠ Y.ownBlock := by
  intro e
  rcases hA with h | h
  · rcases hX with h2 | h2
    · rw [h2] at h; cases h
    · exact h2 (h.trans e)
  · have := hY gA e.symm
    omega
theorem two_apart2 {Y : Value} {gA gB HB szA : Nat} (h : some gA ≠ Y.ownBlock) (hA : gA < szA) (hB : Y.ownBlock = some gB ∨ gB = HB) (hHB : szA ≤ HB) : gA ≠ gB := by
  intro e
  subst e
  rcases hB with h2 | h2
  · exact h h2.symm
  · omega
set_option maxHeartbeats 8000000 in
set_option maxRecDepth 100000 in
theorem firstThere_c (A B : Option Addr) (len ca cb n : Nat) (l : List F) (th : List Bool) (w : World) (h : Row w A len l) (hb : BRow w B len th) (hlen : len ≤ 255) (hn : n ≤ 255) :
    Calls Try.prog 15 #[.slice A len ca, .slice B len cb, .int .i64 n] w fun e w' => ∃ X cx Y cy t, e = .returned (.tuple #[.slice X t cx, .slice Y t cy]) ∧ Hid (t = (fth th n len).length) ∧ w'.ownsRow w.heap.size 5 1 (.slice X t cx) t (cs (thX th n len)) ∧ w'.ownsRow w.heap.size 5 1 (.slice Y t cy) t (cs (thY l th n len)) ∧ Below w.heap.size w w' := by
  obtain ⟨i0, hi, hz0, hz1, hz2⟩ := info_parts info_u8
  go_enter Try.func15, Try.ntmps15
  go_wp2
  go_loopw [6, 7, 12] (fun vx vy i wr => ∃ (k : Nat) (X : Option Addr) (cx : Nat) (Y : Option Addr) (cy t : Nat), k ≤ len ∧ i = .int .i64 k ∧ vx = .slice X t cx ∧ vy = .slice Y t cy ∧ Hid (t = (fth th n k).length) ∧
      wr.ownsRow w.heap.size 5 1 (.slice X t cx) t (cs (thX th n k)) ∧ wr.ownsRow w.heap.size 5 1 (.slice Y t cy) t (cs (thY l th n k)) ∧ Hid ((Value.slice X t cx).ownBlock = none ∨ (Value.slice X t cx).ownBlock ≠ (Value.slice Y t cy).ownBlock) ∧ Below w.heap.size w wr) (fun _ _ i _ => len - (intOf i).toNat)
  case atStart => exact ⟨0, none, 0, none, 0, 0, by omega, rfl, rfl, rfl, rfl, ⟨rfl, .inl ⟨rfl, rfl⟩⟩, ⟨rfl, .inl ⟨rfl, rfl⟩⟩, .inl rfl, Below.refl _ _⟩
  case round =>
    obtain ⟨k, X, cx, Y, cy, t, hk, rfl, rfl, rfl, ht, hX, hY, hne, hbel⟩ := hrel
    by_cases hlt : k < len
    · have hkn : (k : Int) < len := by omega
      obtain ⟨b1, o1, e1, l1, h1⟩ := h.at_ hlt
      obtain ⟨b2, o2, e2, l2, h2⟩ := hb.at_ hlt
      subst e1 e2
      replace h1 := (hbel.cell (p := ⟨b1, o1 + k, none⟩) l1).trans h1
      replace h2 := (hbel.cell (p := ⟨b2, o2 + k, none⟩) l2).trans h2
      have hle := fth_le_k th n k
      rw [← ht.out] at hle
      cases hg : gb th k with
      | false =>
        rw [hg] at h2
        have hno := Lib.hid (fth_no (th := th) (n := n) (k := k) (.inl hg))
        clear hg
        go_wp2
        go_roundw
        case rel =>
          refine ⟨k + 1, X, cx, Y, cy, t, by omega, by go_num, rfl, rfl, ?_, ?_, ?_, hne, hbel⟩
          · unfold Hid; rw [hno.out]; exact ht.out
          · unfold thX; rw [hno.out]; exact hX
          · unfold thY; rw [hno.out]; exact hY
        case measure => simp [intOf]; omega
      | true =>
        rw [hg] at h2
        by_cases htn : t < n
        · have hXY := Lib.hid (And.intro (thX_yes hg (by rw [← ht.out]; exact htn)) (thY_yes (l := l) hg (by rw [← ht.out]; exact htn)))
          have hfth : Hid (t + 1 = (fth th n (k + 1)).length) := by
            unfold Hid
            rw [← thX_length, hXY.out.1, List.length_append, thX_length, ← ht.out]
            rfl
          have htni : (t : Int) < n := by omega
          have hk255 : (k : Int) < 256 := by omega
          have ag1 : some b1 ≠ (Value.slice X t cx).ownBlock := fun e => by have := (hX.lt b1 e.symm).1; omega
          have ag2 : some b1 ≠ (Value.slice Y t cy).ownBlock := fun e => by have := (hY.lt b1 e.symm).1; omega
          have hw8 := u8_wrap (k := k) (by omega)
          have lW := hbel.size
          have hbX := Lib.hid (fun g e => (hX.lt g e).2)
          have hbY := Lib.hid (fun g e => (hY.lt g e).2)
          have hneX : ∀ z, wr.heap.size ≤ z → (Value.slice X t cx).ownBlock ≠ some z := fun z hz e => by have := hbX.out z e; omega
          have HNX := Lib.hid hneX
          have hneY : (Value.slice Y t cy).ownBlock = none ∨ (Value.slice Y t cy).ownBlock ≠ (Value.slice X t cx).ownBlock := by
            rcases hne.out with h | h
            · cases hy : (Value.slice Y t cy).ownBlock with
              | none => exact .inl rfl
              | some z => exact .inr (by rw [h]; simp)
            · exact .inr fun e => h e.symm
          have HNY := Lib.hid hneY
          clear hg hneX hneY h hb
          go_wp2
          go_region_held3 (fun w' => w'.cell? ⟨b1, o1 + k, none⟩ = some (.int .u8 (gt l k).n))
            (first
              | go_keep
              | (rw [hgrowA.cell_far _ (by simp; omega) ag1]; assumption)
              | (rw [hgrowB.cell_far _ (by have := hgrowA.size; simp at this ⊢; omega) ag2]; assumption))
            (first
              | (refine step_append_lies _ (by rfl) (.tmp 24) (.tmp 27) _ (by rfl) w.heap.size 5 i0 _ 1 1 Try.underlying22 hi hz0 hz1 hz2 rfl (by omega) (.slice X t cx) t (cs (thX th n k)) (by rfl)
                  (hX.alloc (.cells #[.int .u8 k] 5))
                  ⟨wr.heap.size, 0, none⟩ 1 1 [.int .u8 k] (by rfl) (by rfl) ((Blk.new wr 5 #[.int .u8 k]).drew.news) (by simp [Value.oneCell'])
                  (by omega) (by unfold maxLen; omega) (by omega) (by simp; omega) (wr.heap.size + 1) (by simp) ?_; intro gA capA wA hownA hgrowA hatA hltA)
              | (refine step_append_lies _ (by rfl) (.tmp 24) (.tmp 27) _ (by rfl) w.heap.size 5 i0 _ 1 1 Try.underlying22 hi hz0 hz1 hz2 rfl (by omega) (.slice X t cx) t (cs (thX th n k)) (by rfl)
                  ((hX.alloc (.cells #[.int .u8 k] 5)).alloc (.cells #[.int .u8 (gt l k).n] 5))
                  ⟨wr.heap.size, 0, none⟩ 1 1 [.int .u8 k] (by rfl) (by rfl) (((Blk.new wr 5 #[.int .u8 k]).alloc (.cells #[.int .u8 (gt l k).n] 5)).drew.news) (by simp [Value.oneCell'])
                  (by omega) (by unfold maxLen; omega) (by omega) (by simp; omega) (wr.heap.size + 2) (by simp) ?_; intro gA capA wA hownA hgrowA hatA hltA)
              | (refine step_append_lies _ (by rfl) (.tmp 24) (.tmp 27) _ (by rfl) w.heap.size 5 i0 _ 1 1 Try.underlying22 hi hz0 hz1 hz2 rfl (by omega) (.slice X t cx) t (cs (thX th n k)) (by rfl)
                  ((hX.alloc (.cells #[.int .u8 (gt l k).n] 5)).alloc (.cells #[.int .u8 k] 5))
                  ⟨wr.heap.size + 1, 0, none⟩ 1 1 [.int .u8 k] (by rfl) (by rfl) ((Blk.new1 wr (.cells #[.int .u8 (gt l k).n] 5) 5 #[.int .u8 k]).drew.news) (by simp [Value.oneCell'])
                  (by omega) (by unfold maxLen; omega) (by omega) (by simp; omega) (wr.heap.size + 2) (by simp) ?_; intro gA capA wA hownA hgrowA hatA hltA)
              | (refine step_append_lies _ (by rfl) (.tmp 29) (.tmp 34) _ (by rfl) w.heap.size 5 i0 _ 1 1 Try.underlying22 hi hz0 hz1 hz2 rfl (by omega) (.slice Y t cy) t (cs (thY l th n k)) (by rfl)
                  (((hY.alloc (.cells #[.int .u8 k] 5)).drew.kept hgrowA HNY.out).alloc (.cells #[.int .u8 (gt l k).n] 5))
                  ⟨wA.heap.size, 0, none⟩ 1 1 [.int .u8 (gt l k).n] (by rfl) (by rfl) ((Blk.new wA 5 #[.int .u8 (gt l k).n]).drew.news) (by simp [Value.oneCell'])
                  (by omega) (by unfold maxLen; omega) (by omega) (by have := hgrowA.size; simp at this ⊢; omega) (wA.heap.size + 1) (by simp) ?_; intro gB capB wB hownB hgrowB hatB hltB)
              | (refine step_append_lies _ (by rfl) (.tmp 29) (.tmp 34) _ (by rfl) w.heap.size 5 i0 _ 1 1 Try.underlying22 hi hz0 hz1 hz2 rfl (by omega) (.slice Y t cy) t (cs (thY l th n k)) (by rfl)
                  (((hY.alloc (.cells #[.int .u8 k] 5)).alloc (.cells #[.int .u8 (gt l k).n] 5)).drew.kept hgrowA HNY.out)
                  ⟨wr.heap.size + 1, 0, none⟩ 1 1 [.int .u8 (gt l k).n] (by rfl) (by rfl) (((Blk.new1 wr (.cells #[.int .u8 k] 5) 5 #[.int .u8 (gt l k).n]).drew.kept hgrowA ⟨by simp, HNX.out _ (by omega)⟩).news) (by simp [Value.oneCell'])
                  (by omega) (by unfold maxLen; omega) (by omega) (by have := hgrowA.size; simp at this ⊢; omega) wA.heap.size rfl ?_; intro gB capB wB hownB hgrowB hatB hltB)
              | (refine step_append_lies _ (by rfl) (.tmp 29) (.tmp 34) _ (by rfl) w.heap.size 5 i0 _ 1 1 Try.underlying22 hi hz0 hz1 hz2 rfl (by omega) (.slice Y t cy) t (cs (thY l th n k)) (by rfl)
                  (((hY.alloc (.cells #[.int .u8 (gt l k).n] 5)).alloc (.cells #[.int .u8 k] 5)).drew.kept hgrowA HNY.out)
                  ⟨wr.heap.size, 0, none⟩ 1 1 [.int .u8 (gt l k).n] (by rfl) (by rfl) ((((Blk.new wr 5 #[.int .u8 (gt l k).n]).alloc (.cells #[.int .u8 k] 5)).drew.kept hgrowA ⟨by simp; omega, HNX.out _ (by omega)⟩).news) (by simp [Value.oneCell'])
                  (by omega) (by unfold maxLen; omega) (by omega) (by have := hgrowA.size; simp at this ⊢; omega) wA.heap.size rfl ?_; intro gB capB wB hownB hgrowB hatB hltB))
          all_goals
            have neA : some gA ≠ (Value.slice Y t cy).ownBlock := two_apart hne.out hbY.out hatA (by omega)
            have neAB : gA ≠ gB := two_apart2 neA hltA hatB (by omega)
            have hownA2 : wB.ownsRow w.heap.size 5 1 (.slice (some ⟨gA, 0, none⟩) (t + 1) capA) (t + 1) (cs (thX th n (k + 1))) := by
              rw [hXY.out.1, cs_append, show cs [plI k] = [.int .u8 (k : Int)] by show [Value.int .u8 ((plI k).n : Int)] = _; rw [plI_lt (by omega)]]
              first | exact hownA.kept hgrowB (.inr neA) | exact (hownA.alloc _).kept hgrowB (.inr neA)
            have hownB2 : wB.ownsRow w.heap.size 5 1 (.slice (some ⟨gB, 0, none⟩) (t + 1) capB) (t + 1) (cs (thY l th n (k + 1))) := by
              rw [hXY.out.2, cs_append]
              exact hownB
            have hbA : Below w.heap.size w wA := by
              first
                | exact (hbel.alloc lW _).drew.grown hgrowA (by simp; omega) (fun g e => (hX.lt g e).1)
                | exact ((hbel.alloc lW _).alloc (by simp; omega) _).drew.grown hgrowA (by simp; omega) (fun g e => (hX.lt g e).1)
            have hbB : Below w.heap.size w wB := by
              first
                | exact hbA.grown hgrowB hbA.size (fun g e => (hY.lt g e).1)
                | exact (hbA.alloc hbA.size _).grown hgrowB (by have := hbA.size; simp; omega) (fun g e => (hY.lt g e).1)
            have hneAB : Hid ((Value.slice (some ⟨gA, 0, none⟩) (t + 1) capA).ownBlock = none ∨ (Value.slice (some ⟨gA, 0, none⟩) (t + 1) capA).ownBlock ≠ (Value.slice (some ⟨gB, 0, none⟩) (t + 1) capB).ownBlock) := .inr (by simp [Value.ownBlock]; exact neAB)
            clear hownA hownB hgrowA hgrowB hbA hatA hatB hne hX hY hXY
            go_wp2
            go_roundw
            case rel => exact ⟨k + 1, _, capA, _, capB, t + 1, by omega, by go_num, rfl, rfl, hfth, hownA2, hownB2, hneAB, hbB⟩
            case measure => simp [intOf]; omega
        · have hno := Lib.hid (fth_no (th := th) (n := n) (k := k) (.inr (by rw [← ht.out]; omega)))
          have htni : ¬ (t : Int) < n := by omega
          clear hg
          go_wp2
          go_roundw
          case rel =>
            refine ⟨k + 1, X, cx, Y, cy, t, by omega, by go_num, rfl, rfl, ?_, ?_, ?_, hne, hbel⟩
            · unfold Hid; rw [hno.out]; exact ht.out
            · unfold thX; rw [hno.out]; exact hX
            · unfold thY; rw [hno.out]; exact hY
          case measure => simp [intOf]; omega
    · obtain rfl : k = len := by omega
      go_wp2
      go_ret2
      exact ⟨X, cx, Y, cy, t, rfl, ht, hX, hY, hbel⟩
end Go.Proofs.Ytcodgamhgfafnaa
