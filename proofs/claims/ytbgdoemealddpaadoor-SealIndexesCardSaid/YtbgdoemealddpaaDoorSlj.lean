/-
  SEALS: the sums of blocks of columns: the program's, and the document's; are rows of sums the same (the document's). Columns of at most 2^20 bytes.
-/
import Derived.Test.YtbgdoemealddpaaDoorSli
namespace Go.Proofs.YtbgdoemealddpaaDoor
open Go.RowKit
set_option maxRecDepth 100000
set_option linter.unusedVariables false

theorem Sums_no {N K S B : Int} (h : Wf4 N K S B) (hr : right23 N K S B = false) (w : World) (A : Option Addr) (m cap : Nat) : Calls Tryd.prog 15 #[.slice A m cap, .agg #[.int .i64 N, .int .i64 K, .int .i64 S, .int .i64 B]] w fun e w' => e = .returned (.slice none 0 0) ∧ Below w.heap.size w w' := by
  have hb := (Below.refl w.heap.size w).alloc (Nat.le_refl _) (.cells #[.int .i64 N, .int .i64 K, .int .i64 S, .int .i64 B] 23)
  have hK := Blk.new w 23 #[.int .i64 N, .int .i64 K, .int .i64 S, .int .i64 B]
  have tl := ld_g23 hK rfl
  have HR := Lib.hid (Right_c h (w.alloc (.cells #[.int .i64 N, .int .i64 K, .int .i64 S, .int .i64 B] 23)))
  have HB := Lib.hid hb
  rw [hr] at HR
  clear hb hK hr
  go_enter Tryd.func15, Tryd.ntmps15
  go_wp2_with (first
    | (with_reducible refine wpList_load_var w.heap.size _ rfl tl ?_)
    | fail)
  refine HR.out.mono ?_
  rintro e W2 ⟨rfl, hb2⟩
  have HB2 := Lib.hid (HB.out.trans (hb2.mono HB.out.size))
  clear hb2
  go_wp2
  go_ret
  exact ⟨rfl, HB2.out⟩
/-- how many sums, which -/
def ctS (RL : Nat → Nat) (b : Nat) : Nat → Nat := fun r => blkCount (RL r) b
def smS (R : Nat → List F) (RL : Nat → Nat) (b : Nat) : Nat → List G := fun r => sums (R r) b (blkCount (RL r) b)
set_option maxHeartbeats 4000000 in
theorem Sums_yes {n k s b : Nat} (h : Wf4 n k s b) (hr : right23 n k s b = true) {w : World} (ht : Tab w) {A : Option Addr} {m cap : Nat} {RA : Nat → Option Addr} {RL RC : Nat → Nat} {R : Nat → List F} (hM : MIn w A m cap RA RL RC R) (hm : m ≤ 1000) (hl : ∀ r, r < m → RL r ≤ 1048576) :
    Calls Tryd.prog 15 #[.slice A m cap, .agg #[.int .i64 (n : Int), .int .i64 (k : Int), .int .i64 (s : Int), .int .i64 (b : Int)]] w fun e w' => ∃ g RA' RC', e = .returned (.slice (some ⟨g, 0, none⟩) m m) ∧ GIn w' (some ⟨g, 0, none⟩) m m RA' (ctS RL b) RC' (smS R RL b) ∧ Below w.heap.size w w' ∧ w.heap.size < g ∧ ∀ r, r < m → 0 < ctS RL b r → ∀ x, RA' r = some x → g ≤ x.block := by
  obtain ⟨i0, hi, hz0, hz1, hz2⟩ := info_parts info_words
  have hx := of_decide_eq_true hr
  have hb := (Below.refl w.heap.size w).alloc (Nat.le_refl _) (.cells #[.int .i64 (n : Int), .int .i64 (k : Int), .int .i64 (s : Int), .int .i64 (b : Int)] 23)
  have hK := Blk.new w 23 #[.int .i64 (n : Int), .int .i64 (k : Int), .int .i64 (s : Int), .int .i64 (b : Int)]
  have tl := ld_g23 hK rfl
  have hR := Right_c h (w.alloc (.cells #[.int .i64 (n : Int), .int .i64 (k : Int), .int .i64 (s : Int), .int .i64 (b : Int)] 23))
  rw [hr] at hR
  have hb0 : 0 < b := by omega
  have hb9 : b ≤ 9223372036854775807 := by omega
  have HR := Lib.hid hR
  have HB := Lib.hid hb
  have HK := Lib.hid hK
  have HM := Lib.hid hM
  have HT := Lib.hid ht
  have HL := Lib.hid hl
  clear hx hb hK hR hr hM ht hl
  go_enter Tryd.func15, Tryd.ntmps15
  go_wp2_with (first
    | (with_reducible refine wpList_load_var w.heap.size _ rfl tl ?_)
    | fail)
  refine HR.out.mono ?_
  rintro e W2 ⟨rfl, hb2⟩
  have HB2 := Lib.hid (HB.out.trans (hb2.mono HB.out.size))
  have HK2 := Lib.hid (HK.out.below HK.out.lt hb2)
  have hlt2 := HK2.out.lt
  clear hb2 HB HK HR tl
  go_wp2_with (at_make; refine wpList_make_full _ rfl _ _ 24 rfl W2.heap.size 56 i0 (.slice none 0 0) 1 Tryd.underlying24 hi hz0 hz1 _ _ _ _ m rfl rfl rfl rfl (by rw [hz2]; omega) (by unfold maxLen; omega) (Nat.le_refl _) ?_; intro w0 hown0 hgrow0)
  have G0 := Lib.hid (GBld.mk (lo := W2.heap.size) (Lf := ctS RL b) (S := smS R RL b) (k := 0) hown0 (fun r hr => by omega))
  have HB3 := Lib.hid (HB2.out.grown hgrow0 (by omega) (fun k h => by cases h))
  have HK3 := Lib.hid (HK2.out.kept hgrow0 ⟨hlt2, fun e => by cases e⟩)
  have hsz0 := hgrow0.size
  generalize hg : W2.heap.size = g at *
  clear hown0 hgrow0 HB2 HK2
  go_wp2
  go_loopw [16] (fun iv wr => ∃ (r : Nat) (xs : List Value), r ≤ m ∧ iv = .int .i64 r ∧ Hid (GBld wr g g m g (ctS RL b) (smS R RL b) r xs) ∧ Hid (Below g w0 wr)) (fun iv _ => m - (intOf iv).toNat)
  case atStart => exact ⟨0, _, by omega, rfl, G0, Below.refl _ _⟩
  case round =>
    obtain ⟨r, xs, hr, rfl, hG, hBr⟩ := hrel
    have hKr := HK3.out.lowB hlt2 hBr.out
    have HBw := Lib.hid (HB3.out.trans (hBr.out.mono (by omega)))
    by_cases hlt : r < m
    · have hrm : (r : Int) < m := by omega
      have hr0 : (0 : Int) ≤ (r : Int) := by omega
      have hMr := HM.out.below HBw.out
      obtain ⟨b1, o1, rfl, _, q1⟩ := hMr.at_ hlt
      have y3 := (hKr.cell 3).trans (show _ = some (Value.int .i64 (b : Int)) from rfl)
      have HBlk := Lib.hid (Blocks_c (RA r) (RL r) (RC r) b (R r) wr (HT.out.below HBw.out rfl) (hMr.row r hlt) (HL.out r hlt) hb0 hb9)
      have hgl := hG.out.lt
      clear hMr
      go_wp2_with fail
      refine HBlk.out.mono ?_
      rintro e W4 ⟨v4, rfl, hown4, hb4⟩
      obtain ⟨A4, c4, rfl, hc4⟩ := own_shape hown4
      have G4 := Lib.hid (hG.out.below hb4)
      have hrow4 := GRow.of_own hown4
      have f4 := G4.out.own.frozenAt r
      have hx4 : ∃ u, W4.cell? ⟨g, r, none⟩ = some u := by
        have h1 := G4.out.own.cellAt r (by omega)
        have h2 : xs.length = m := by simpa using G4.out.own.1
        exact ⟨xs[r]'(by omega), h1.trans (List.getElem?_eq_getElem _)⟩
      obtain ⟨u4, hx4⟩ := hx4
      have P4 := Lib.hid (G4.out.put hlt (A := A4) (c := c4) (show GRow W4 A4 (ctS RL b r) (smS R RL b r) from hrow4) hc4.1 hc4.2 (fun h0 x e => by
        subst e
        have := (hown4.lt x.block rfl).1
        exact ⟨by omega, by omega⟩))
      have HB5 : Hid (Below g w0 (W4.setCell ⟨g, r, none⟩ (.slice A4 (ctS RL b r) c4))) := (hBr.out.trans (hb4.mono (by have := hBr.out.size; omega))).setCell (by show g ≤ g; omega) _
      clear hown4 hrow4 hb4 hKr HBlk
      go_wp2
      go_roundw
      case rel => exact ⟨r + 1, _, by omega, by go_num, P4, HB5⟩
      case measure => simp [intOf]; omega
    · obtain rfl : r = m := by omega
      obtain ⟨RA', RC', hgin, hlo⟩ := hG.out.done
      go_wp2
      go_ret
      exact ⟨g, RA', RC', rfl, hgin, HBw.out, hlt2, hlo⟩
set_option maxHeartbeats 4000000 in
theorem RSums_c {b : Nat} (hb0 : 0 < b) (hb9 : b ≤ 9223372036854775807) {w : World} {A : Option Addr} {m cap : Nat} {RA : Nat → Option Addr} {RL RC : Nat → Nat} {R : Nat → List F} (hM : MIn w A m cap RA RL RC R) (hm : m ≤ 1000) (hl : ∀ r, r < m → RL r ≤ 1048576) :
    Calls Tryd.prog 18 #[.slice A m cap, .int .i64 (b : Int)] w fun e w' => ∃ A' c' RA' RC', e = .returned (.slice A' m c') ∧ GIn w' A' m c' RA' (ctS RL b) RC' (smS R RL b) ∧ Below w.heap.size w w' := by
  obtain ⟨i0, hi, hz0, hz1, hz2⟩ := info_parts info_words
  have HM := Lib.hid hM
  have HL := Lib.hid hl
  clear hM hl
  go_enter Tryd.func18, Tryd.ntmps18
  go_wp2
  go_loopw [5, 6] (fun ov iv wr => ∃ (r c g : Nat) (RA' : Nat → Option Addr) (RC' : Nat → Nat), r ≤ m ∧ iv = .int .i64 r ∧ ov = .slice (some ⟨g, 0, none⟩) r c ∧ Hid (GRws wr w.heap.size (some ⟨g, 0, none⟩) r c w.heap.size RA' (ctS RL b) RC' (smS R RL b)) ∧ Hid (Below w.heap.size w wr)) (fun _ iv _ => m - (intOf iv).toNat)
  case atStart => exact ⟨0, 0, w.heap.size, fun _ => none, fun _ => 0, by omega, rfl, rfl, GRws.none_ w (Nat.le_refl _), (Below.refl _ _).alloc (Nat.le_refl _) _⟩
  case round =>
    obtain ⟨r, c, g, RA', RC', hr, rfl, rfl, hG, hBr⟩ := hrel
    by_cases hlt : r < m
    · have hrm : (r : Int) < m := by omega
      have hr0 : (0 : Int) ≤ (r : Int) := by omega
      have hMr := HM.out.below hBr.out
      obtain ⟨b1, o1, rfl, _, q1⟩ := hMr.at_ hlt
      have HBlk := Lib.hid (RefBlocks_c (RA r) (RL r) (RC r) b (R r) wr (hMr.row r hlt) (HL.out r hlt) hb0 hb9)
      have hsz := hBr.out.size
      have hgl := hG.out.own.lt g rfl
      clear hMr
      go_wp2_with (first
        | (go_at_call 38; refine HBlk.out.mono ?_; rintro e W4 ⟨g4, c4, rfl, hown4, hb4⟩; have G4 := Lib.hid (hG.out.below hb4); have HO4 := Lib.hid hown4; have HB4 := Lib.hid hb4; have hsz4 := hb4.size; clear hown4 hb4)
        | (at_builtin; refine wpList_append_lies _ rfl (.tmp 14) (.tmp 21) 24 rfl w.heap.size 56 i0 (.slice none 0 0) 1 24 Tryd.underlying24 hi hz0 hz1 hz2 rfl (by decide) (.slice (some ⟨g, 0, none⟩) r c) r (vs (slg RA' (ctS RL b) RC') r) rfl (G4.out.own.alloc _) ⟨W4.heap.size, 0, none⟩ 1 1 [.slice (some ⟨g4, 0, none⟩) (ctS RL b r) c4] rfl rfl (one_cell6 W4 _ _) (by intro u hu; simp at hu; subst hu; rfl) (by omega) (by unfold maxLen; omega) (by omega) (by simp; omega) (W4.heap.size + 1) (by simp) ?_; intro g5 c5 w6 hown5 hg5 hat5 hlt5))
      have G6 := Lib.hid (G4.out.push (L' := ctS RL b r) (R' := smS R RL b r) (GRow.of_own HO4.out) (own_caps6 HO4.out).1 (by have := (own_caps6 HO4.out).2; unfold maxLen; exact this) (fun h0 x e => by
        injection e with e
        subst e
        have := (HO4.out.lt g4 rfl).1
        exact ⟨by show _ ≤ g4; omega, fun e => by injection e with e; have e2 : g = g4 := e; omega⟩) ((Below.refl W4.heap.size W4).alloc (Nat.le_refl _) _) hown5 hg5 (by
        rcases hat5 with h | h
        · left
          injection h with h
          exact congrArg some h.symm
        · right
          intro y hy
          injection hy with hy
          subst hy
          show _ ≤ g5
          rw [h]
          simp))
      have G7 := Lib.hid (G6.out.congr (RL' := ctS RL b) (R' := smS R RL b) (fun r' hr' => by
          by_cases e : r' = r
          · subst e; exact GRws.upd_at _ _ _
          · exact GRws.upd_lt _ _ (by omega)) (fun r' hr' => by
          by_cases e : r' = r
          · subst e; exact GRws.upd_at _ _ _
          · exact GRws.upd_lt _ _ (by omega)))
      have HB7 : Hid (Below w.heap.size w w6) := ((hBr.out.trans (HB4.out.mono hsz)).alloc (by omega) _).grown hg5 (by simp; omega) (fun x hx => by injection hx with hx; subst hx; exact hgl.1)
      clear hown5 hg5 hat5 hlt5 G6 G4 HO4 HB4
      go_wp2
      go_roundw
      case rel => exact ⟨r + 1, c5, g5, _, _, by omega, by go_num, rfl, G7, HB7⟩
      case measure => simp [intOf]; omega
    · obtain rfl : r = m := by omega
      go_wp2
      go_ret
      exact ⟨_, c, RA', RC', rfl, hG.out.gin, hBr.out⟩
end Go.Proofs.YtbgdoemealddpaaDoor
