/- THE CONTRACTS OF deflate (at most 1000 tokens, 1000 bytes), AND ITS EXAMPLE. -/
import Derived.Test.YtldgdofefcehnaaGreatDoorDfa
import Derived.Test.YtldgdofefcehnaaGreatDoorDfh
import Derived.Test.YtldgdofefcehnaaGreatDoorLenE
import Derived.RangeFuncBox
import Derived.RangeFuncWrites
import Derived.RangeFuncCalls
import Derived.RangeFuncNested
import Derived.Lib.SlBytesConst
namespace Go.Proofs.YtldgdofefcehnaaGreatDoor
section
open Go.RowKit Go.Shelf
set_option maxRecDepth 100000
set_option linter.unusedVariables false
attribute [local go_sem] Oper.semAt_some
def pl1 (p : List (Fin 1)) : Nat := p.length
theorem kf_below {W W' : World} (h : Below W.heap.size W W') (B : Nat) : KeepsFrom B W W' := ⟨h.size, fun k o _ hk ho => by
 have hlt : k < W.heap.size := (Array.getElem?_eq_some_iff.1 hk).1
 rw [h.block k hlt]; exact hk⟩
theorem kf_trans {B : Nat} {X Y Z : World} (h : KeepsFrom B X Y) (k : KeepsFrom B Y Z) : KeepsFrom B X Z := ⟨Nat.le_trans h.size k.size, fun j o hj hk ho => k.same j o hj (h.same j o hj hk ho) ho⟩
set_option maxHeartbeats 8000000 in
theorem worth_in (b off N cN : Nat) (T : List Tok) (w : World) (htb : Tabs w) (hT : TRow w (some ⟨b, off, none⟩) N T) (hlt : b < w.heap.size) (hcN : N ≤ cN) (h0 : 0 < N) (B : Option Addr) (m cb : Nat) (l : List F) (hl : RowIn w B m cb l) (hG : Good T l) (hm : m ≤ 1000) (X0 : List Tok) (hX0 : ∀ X, PayR T l X → X = X0) :
  CallsIn Fence.wide 6 Tryz.prog 39 #[.slice (some ⟨b, off, none⟩) N cN, .slice B m cb] w fun e W' => ∃ v, e = .returned v ∧ PayR T l X0 ∧ W'.ownsRow w.heap.size 53 3 v X0.length (tC X0) ∧ Below w.heap.size w W' := by
 obtain ⟨i3, hi3, hy0, hy1, hy2⟩ := info_parts info_tk3
 have hlen := hl.row.len
 have hTl := hT.len
 have hNm : N ≤ m := by have := hG.le; omega
 have hmb : m ≤ cb := hl.le
 have hbys : bysF T = m := by rw [hG.bys, hlen]
 have hXl : PayR T l X0 → X0.length ≤ 1000 ∧ 0 < X0.length := fun h => by
  have g := h.good hG
  have h1 := g.le
  refine ⟨by omega, ?_⟩
  rcases Nat.eq_zero_or_pos X0.length with e | e
  ·have e2 := List.eq_nil_of_length_eq_zero e
   have h2 := g.bys
   rw [e2] at h2
   simp only [bysF] at h2
   omega
  ·exact e
 have hbc : blkCount N 2048 = 1 := by unfold blkCount; omega
 have hbv : blkT b off N 2048 0 = .slice (some ⟨b, off, none⟩) N N := by
  unfold blkT blkLen
  rw [show min 2048 (N - 0 * 2048) = N by omega, show off + 0 * 2048 * 3 = off by omega]
 obtain ⟨VE, hVE⟩ : ∃ VE : Value, VE = if cb = m then .slice B 0 0 else .slice (B.map fun x => x.add m) 0 (cb - m) := ⟨_, rfl⟩
 refine callsIn_of_wp_marks Tryz.func39 rfl trivial ?_ rfl
 simp only [Tryz.ntmps39, List.size_toArray, List.length_cons, List.length_nil, Nat.reduceAdd, Nat.reduceSub, Array.replicate_succ, Array.replicate_zero, List.push_toArray, List.append_toArray, List.nil_append, List.cons_append]
 gi_wp2_with (refine ⟨trivial, ?_⟩; gi_at_call 86; refine (chunkT_in Fence.wide _ trivial rfl _ N cN 2048 (by decide) (by decide) _).mono ?_; rintro e w' ⟨rfl, rfl⟩)
 have hsz4 : ((((w.alloc (.cells #[.slice B m cb] 22)).alloc (.cells #[.slice none 0 0] 41)).alloc (.cells #[.slice (some ⟨b, off, none⟩) N cN] 41)).alloc (.cells #[.int .i64 2048] 3)).heap.size = w.heap.size + 4 := by simp
 have hB0 : Below w.heap.size w ((((w.alloc (.cells #[.slice B m cb] 22)).alloc (.cells #[.slice none 0 0] 41)).alloc (.cells #[.slice (some ⟨b, off, none⟩) N cN] 41)).alloc (.cells #[.int .i64 2048] 3)) := ((((Below.refl _ w).alloc (Nat.le_refl _) _).alloc (by simp) _).alloc (by simp; omega) _).alloc (by simp; omega) _
 have x0 := (((Boxed.new w 22 (.slice B m cb)).alloc (.cells #[.slice none 0 0] 41)).alloc (.cells #[.slice (some ⟨b, off, none⟩) N cN] 41)).alloc (.cells #[.int .i64 2048] 3)
 have x1 := ((Boxed.new (w.alloc (.cells #[.slice B m cb] 22)) 41 (.slice none 0 0)).alloc (.cells #[.slice (some ⟨b, off, none⟩) N cN] 41)).alloc (.cells #[.int .i64 2048] 3)
 have x2 := (Boxed.new ((w.alloc (.cells #[.slice B m cb] 22)).alloc (.cells #[.slice none 0 0] 41)) 41 (.slice (some ⟨b, off, none⟩) N cN)).alloc (.cells #[.int .i64 2048] 3)
 have x3 := Boxed.new (((w.alloc (.cells #[.slice B m cb] 22)).alloc (.cells #[.slice none 0 0] 41)).alloc (.cells #[.slice (some ⟨b, off, none⟩) N cN] 41)) 3 (.int .i64 2048)
 rw [World.size_alloc] at x1
 rw [World.size_alloc, World.size_alloc] at x2
 rw [World.size_alloc, World.size_alloc, World.size_alloc] at x3
 generalize hW0 : (((w.alloc (.cells #[.slice B m cb] 22)).alloc (.cells #[.slice none 0 0] 41)).alloc (.cells #[.slice (some ⟨b, off, none⟩) N cN] 41)).alloc (.cells #[.int .i64 2048] 3) = W0 at *
 clear hW0
 have c1 := x2.cell
 have c2 := x3.cell
 have HT := Lib.hid hT
 have HL := Lib.hid hl
 have HTB := Lib.hid htb
 have HG := Lib.hid hG
 have HBYS := Lib.hid hbys
 have HX0 := Lib.hid hX0
 have HXL := Lib.hid hXl
 have HVE := Lib.hid hVE
 have HBV := Lib.hid hbv
 clear hT hl htb hG hbys hX0 hXl hVE hTl hlen hbv
 refine wpIn_rangeFunc_ownG rfl (by omega) (gf := 130) (lb := #[.pointer (some ⟨w.heap.size + 1 + 1, 0, none⟩), .pointer (some ⟨w.heap.size + 1 + 1 + 1, 0, none⟩)]) rfl trivial (enters_of Tryz.func130 (by kernel_rfl) rfl)
  (chunkT_stops Fence.wide (6 - 1) trivial rfl (by omega) (w.heap.size + 1 + 1) (w.heap.size + 1 + 1 + 1) w.heap.size b off N cN 2048 (by omega) hcN (by decide) (by decide) 1 hbc.symm W0 (by omega) (by omega) c1 c2) Kc.trans (fun W l o o' h1 h2 h3 h4 => Kc.put (w := W0) (by omega) (by omega) (by omega) W l o o' h1 h2 h3 h4) (Below.refl _ _) (fun _ => rfl)
  (fun (pre : List (Fin 1)) W => (∃ v, Boxed W (w.heap.size + 1) 41 v ∧ W.ownsRow w.heap.size 53 3 v (pl1 pre * X0.length) (tC (if pl1 pre = 0 then [] else X0)) ∧ ((pl1 pre = 0 → v = .slice none 0 0) ∧ (pl1 pre ≠ 0 → PayR T l X0))) ∧ (Boxed W w.heap.size 22 (if pl1 pre = 0 then .slice B m cb else VE) ∧ Boxed W (w.heap.size + 1 + 1) 41 (.slice (some ⟨b, off, none⟩) N cN) ∧ Boxed W (w.heap.size + 1 + 1 + 1) 3 (.int .i64 2048)) ∧ Below w.heap.size w W)
  (fun _ _ _ => False)
  (OwnFrom.and (Own.from (holdsRow_own w.heap.size (w.heap.size + 1) 41 53 3 (fun pre : List (Fin 1) => pl1 pre * X0.length) (fun pre => tC (if pl1 pre = 0 then [] else X0)) (fun pre v => (pl1 pre = 0 → v = .slice none 0 0) ∧ (pl1 pre ≠ 0 → PayR T l X0))) _) (OwnFrom.and (OwnFrom.and (Own.from (boxed_own w.heap.size 22 (fun pre : List (Fin 1) => if pl1 pre = 0 then .slice B m cb else VE)) _) (OwnFrom.and (Own.from (boxed_own (w.heap.size + 1 + 1) 41 (fun _ => .slice (some ⟨b, off, none⟩) N cN)) _) (Own.from (boxed_own (w.heap.size + 1 + 1 + 1) 3 (fun _ => .int .i64 2048)) _))) (ownFrom_below (Nat.le_refl _) (by omega))))
  (fun _ _ _ _ _ hs _ _ => hs)
  ⟨⟨_, x1, by simpa [tC, pl1] using World.ownsRow_nil _ _ _ _, fun _ => rfl, fun h => absurd rfl h⟩, ⟨x0, x2, x3⟩, hB0⟩
  (fun k => { tmps := #[.slice (some ⟨b, off, none⟩) N cN, .slice B m cb, undef, .pointer (some ⟨w.heap.size, 0, none⟩), .slice none 0 0, .pointer (some ⟨w.heap.size + 1, 0, none⟩), blkT b off N 2048 k.1, undef, .slice (some ⟨b, off, none⟩) N cN,
        .func (.func 130) #[] #[.pointer (some ⟨w.heap.size + 1 + 1, 0, none⟩), .pointer (some ⟨w.heap.size + 1 + 1 + 1, 0, none⟩)], blkT b off N 2048 k.1, undef, undef, undef, undef, undef, undef, undef, undef, undef, undef, undef, undef, undef], defers := [] }) ?assign ?body ?done ?stop
 case assign =>
  intro l x W K hK
  obtain ⟨k, hk1⟩ := x
  obtain rfl : k = 0 := by omega
  gi_wp2
  exact hK
 case body =>
  rintro ll pre x W ⟨⟨v, hv, hrow, hnil, -⟩, ⟨bB, bS, bN⟩, hB⟩ hlt1
  clear hsz4
  obtain ⟨k, hk1⟩ := x
  obtain rfl : k = 0 := by omega
  have hp0 : pre.length = 0 := by omega
  obtain rfl : pre = [] := List.eq_nil_of_length_eq_zero hp0
  obtain rfl := hnil rfl
  rw [if_pos (show pl1 [] = 0 from rfl)] at bB
  rw [HBV.out]
  have HT1 := Lib.hid (HT.out.below hB)
  have HL1 := Lib.hid (HL.out.below hB)
  have HB1 := Lib.hid hB
  have BA := Lib.hid hv
  have BB := Lib.hid bB
  have BS := Lib.hid bS
  have BN := Lib.hid bN
  clear hv hrow hnil bB bS bN hB hp0 hlt1
  gi_wp2_with (refine ⟨trivial, ?_⟩; gi_at_call 25; refine (CallsIn.inRound ll (callsIn_wide.2 (MBytes_c (some ⟨b, off, none⟩) N N T W HT1.out (by omega)))).mono ?_; rintro e w2 ⟨rfl, hb2⟩)
  rw [HBYS.out]
  have HB2 := Lib.hid (HB1.out.trans (hb2.mono HB1.out.size))
  have BW := Lib.hid hb2
  have bA2 : Boxed w2 (w.heap.size + 1) 41 (.slice none 0 0) := (hb2.block _ BA.out.lt).trans BA.out
  have bB2 : Boxed w2 w.heap.size 22 (.slice B m cb) := (hb2.block _ BB.out.lt).trans BB.out
  have bS2 : Boxed w2 (w.heap.size + 1 + 1) 41 (.slice (some ⟨b, off, none⟩) N cN) := (hb2.block _ BS.out.lt).trans BS.out
  have bN2 : Boxed w2 (w.heap.size + 1 + 1 + 1) 3 (.int .i64 2048) := (hb2.block _ BN.out.lt).trans BN.out
  have hcA := bA2.cell
  have hcB := bB2.cell
  have hmi : (m : Int) ≤ (cb : Int) := by omega
  have hmn : ¬ (m : Int) < 0 := by omega
  have HPAY := Lib.hid (paying_c w2.drew (HTB.out.below (below_drewN HB2.out 1)) (some ⟨b, off, none⟩) N N T (HT.out.below (below_drewN HB2.out 1)) B m cb l (HL.out.below (below_drewN HB2.out 1)) HG.out hm)
  clear hb2
  gi_wp2
  refine wpIn_region_any (by kernel_rfl) ?_
  refine wpAnyIn_round rfl (fun i o hi c h => ?_) _ _ _ _ ?_
  ·rcases i with _ | _ | _ | _ | _ | _ | _ | _ | i
   all_goals first | (simp at hi; done) | (simp at hi; subst hi; cases h)
  change wpAnyIn _ _ _ _ _ _ _ _ _ (World.drew w2)
  refine wpAnyIn_take (i := 1) (v := .slice (some ⟨b, off, none⟩) N N) rfl rfl (by kernel_rfl) (by kernel_rfl) (by kernel_rfl) (fun _ _ _ h => h) ⟨Or.inl ⟨by rfl, by intro w; go_simp⟩, fun _ => rfl⟩ ?_
  refine wpAnyIn_take (i := 3) (v := .int .i64 (m : Int)) rfl rfl (by kernel_rfl) (by kernel_rfl) (by kernel_rfl) (fun _ _ _ h => h) ⟨Or.inl ⟨by rfl, by intro w; go_simp⟩, fun _ => rfl⟩ ?_
  refine wpAnyIn_ready (rs := [0, 2]) (by kernel_rfl) (by simp) ?_
  refine AllReadyIn.cons rfl (fun K hK => ?_) (AllReadyIn.cons rfl (fun K hK => ?_) AllReadyIn.nil)
  ·go_simp
   refine hK _ _ ?_; clear hK K
   refine wpAnyIn_ready (rs := [2]) (by kernel_rfl) (by simp) ?_
   refine AllReadyIn.cons rfl (fun K hK => ?_) AllReadyIn.nil
   go_simp
   refine hK _ _ ?_; clear hK K
   refine wpAnyIn_take (i := 4) (v := .slice B m cb) rfl rfl (by kernel_rfl) (by kernel_rfl) (by kernel_rfl) (fun _ _ _ h => h) ⟨Or.inl ⟨by rfl, by intro w; go_simp⟩, fun _ => rfl⟩ ?_
   refine wpAnyIn_ready (rs := [5]) (by kernel_rfl) (by simp) ?_
   refine AllReadyIn.cons rfl (fun K hK => ?_) AllReadyIn.nil
   gi_wp2_with ((refine ⟨trivial, ?_⟩; gi_at_call 87; refine (callsIn_wide.2 HPAY.out).mono ?_; rintro e w3 ⟨A3, n3, c3, X, rfl, hTX, hPX, hb3⟩))
   obtain rfl := HX0.out X hPX
   obtain ⟨hXl1, hXl2⟩ := HXL.out hPX
   have hn3 := hTX.len
   obtain ⟨ax, ox, rfl, -, -⟩ := hTX.top (by omega)
   have bA3 : Boxed w3 (w.heap.size + 1) 41 (.slice none 0 0) := (hb3.block _ bA2.lt).trans bA2
   have bB3 : Boxed w3 w.heap.size 22 (.slice B m cb) := (hb3.block _ bB2.lt).trans bB2
   have bS3 : Boxed w3 (w.heap.size + 1 + 1) 41 (.slice (some ⟨b, off, none⟩) N cN) := (hb3.block _ bS2.lt).trans bS2
   have bN3 : Boxed w3 (w.heap.size + 1 + 1 + 1) 3 (.int .i64 2048) := (hb3.block _ bN2.lt).trans bN2
   have HB3 := (below_drewN HB2.out 1).trans (hb3.mono (below_drewN HB2.out 1).size)
   have hcA3 := bA3.cell
   have own0 : w3.ownsRow w.heap.size 53 3 (.slice none 0 0) 0 [] := World.ownsRow_nil _ _ _ _
   refine wpAnyIn_ready (rs := [6]) (by kernel_rfl) (by simp) ?_
   refine AllReadyIn.cons rfl (fun K hK => ?_) AllReadyIn.nil
   refine stepIn_append_lies rfl (.tmp 13) (.tmp 18) 41 rfl w.heap.size 53 i3 (.agg #[.int .u8 0, .int .i64 0, .int .i64 0]) 3 24 Tryz.underlying41 hi3 hy0 hy1 hy2 rfl (by decide) (.slice none 0 0) 0 [] rfl own0 ⟨ax, ox, none⟩ n3 c3 (tC X) rfl (by rw [tC_length, hn3]) (hTX.news (by omega)) (tC_one X) (by omega) (by unfold maxLen; omega) (by omega) HB3.size _ rfl ?_
   intro g5 c5 w5 hown5 hg5 _ _
   rw [Nat.zero_add, List.nil_append] at hown5
   rw [Nat.zero_add]
   have hgn : ∀ k, (none : Option Nat) = some k → w.heap.size ≤ k := fun k h => by cases h
   have hB5 := HB3.grown hg5 HB3.size (fun k h => by cases h)
   have bA5 : Boxed w5 (w.heap.size + 1) 41 (.slice none 0 0) := bA3.kept hg5 (by simp [Value.ownBlock])
   have bB5 := bB3.kept hg5 (by simp [Value.ownBlock])
   have bS5 := bS3.kept hg5 (by simp [Value.ownBlock])
   have bN5 := bN3.kept hg5 (by simp [Value.ownBlock])
   have hc5 := bA5.cell
   have hf5 := bA5.frozen
   refine hK _ _ ?_; clear hK K
   refine wpAnyIn_ready (rs := [7]) (by kernel_rfl) (by simp) ?_
   refine AllReadyIn.cons rfl (fun K hK => ?_) AllReadyIn.nil
   go_simp
   refine hK _ _ ?_; clear hK K
   refine wpAnyIn_done (by kernel_rfl) ?_ _
   have bA6 := bA5.set (.slice (some ⟨g5, 0, none⟩) n3 c5)
   have bB6 := Boxed.other bB5 (show w.heap.size ≠ w.heap.size + 1 by omega) (.slice (some ⟨g5, 0, none⟩) n3 c5)
   have bS6 := Boxed.other bS5 (show w.heap.size + 1 + 1 ≠ w.heap.size + 1 by omega) (.slice (some ⟨g5, 0, none⟩) n3 c5)
   have bN6 := Boxed.other bN5 (show w.heap.size + 1 + 1 + 1 ≠ w.heap.size + 1 by omega) (.slice (some ⟨g5, 0, none⟩) n3 c5)
   have own6 := hown5.kept (grownBy_setCell' w5 (w.heap.size + 1) (.slice (some ⟨g5, 0, none⟩) n3 c5)) (.inr (bA5.not_row (by decide) hown5).symm)
   have hB6 := hB5.setCell (p := ⟨w.heap.size + 1, 0, none⟩) (show w.heap.size ≤ w.heap.size + 1 by omega) (.slice (some ⟨g5, 0, none⟩) n3 c5)
   have hKF := kf_trans (kf_trans (kf_trans (kf_trans (kf_below BW.out W0.heap.size) ((KeepsOthers.drew w2).from _)) (kf_below hb3 _)) ((KeepsOthers.of_grownBy hg5 (fun j o e => by cases e)).from _)) ((KeepsOthers.setCell w5 ⟨w.heap.size + 1, 0, none⟩ (.slice (some ⟨g5, 0, none⟩) n3 c5)).from _)
   have hBW : Below w.heap.size W (w5.setCell ⟨w.heap.size + 1, 0, none⟩ (.slice (some ⟨g5, 0, none⟩) n3 c5)) := ((((below_drewN (BW.out.mono HB1.out.size) 1).trans (hb3.mono (below_drewN HB2.out 1).size)).grown hg5 HB3.size (fun k h => by cases h))).setCell (p := ⟨w.heap.size + 1, 0, none⟩) (show w.heap.size ≤ w.heap.size + 1 by omega) _
   have hcB6 := bB6.cell
   have hfB6 := bB6.frozen
   have HKF := Lib.hid hKF
   have HBW := Lib.hid hBW
   have H6 := Lib.hid hB6
   have HPX := Lib.hid hPX
   have HN3 := Lib.hid hn3
   clear hKF hBW hB6 hPX hn3 hgn hB5 hg5 hb3 HB3
   have own7 := own6.kept (grownBy_setCell' _ w.heap.size VE) (.inr (bB6.not_row (by decide) own6).symm)
   have bA7 := Boxed.other bA6 (show w.heap.size + 1 ≠ w.heap.size by omega) VE
   have bB7 := bB6.set VE
   have bS7 := Boxed.other bS6 (show w.heap.size + 1 + 1 ≠ w.heap.size by omega) VE
   have bN7 := Boxed.other bN6 (show w.heap.size + 1 + 1 + 1 ≠ w.heap.size by omega) VE
   have HFIN : Hid (ownPostG W0.heap.size (Kc w.heap.size (w.heap.size + 1 + 1) (w.heap.size + 1 + 1 + 1)) (fun (pre : List (Fin 1)) W => (∃ v, Boxed W (w.heap.size + 1) 41 v ∧ W.ownsRow w.heap.size 53 3 v (pl1 pre * X.length) (tC (if pl1 pre = 0 then [] else X)) ∧ ((pl1 pre = 0 → v = .slice none 0 0) ∧ (pl1 pre ≠ 0 → PayR T l X))) ∧ (Boxed W w.heap.size 22 (if pl1 pre = 0 then .slice B m cb else VE) ∧ Boxed W (w.heap.size + 1 + 1) 41 (.slice (some ⟨b, off, none⟩) N cN) ∧ Boxed W (w.heap.size + 1 + 1 + 1) 3 (.int .i64 2048)) ∧ Below w.heap.size w W) (fun _ _ _ => False) ([] ++ [⟨0, hk1⟩]) W .normal { tmps := #[], defers := [] } ((w5.setCell ⟨w.heap.size + 1, 0, none⟩ (.slice (some ⟨g5, 0, none⟩) n3 c5)).setCell ⟨w.heap.size, 0, none⟩ VE)) :=
    ⟨kf_trans HKF.out ((KeepsOthers.setCell _ _ _).from _), ⟨HBW.out.setCell (p := ⟨w.heap.size, 0, none⟩) (Nat.le_refl _) VE, bS7.cell.trans BS.out.cell.symm, bN7.cell.trans BN.out.cell.symm⟩, ⟨_, bA7, by have e := HN3.out; subst e; simpa [pl1] using own7, fun h => absurd h (by simp [pl1]), fun _ => HPX.out⟩, ⟨bB7, bS7, bN7⟩, H6.out.setCell (p := ⟨w.heap.size, 0, none⟩) (Nat.le_refl _) VE⟩
   by_cases hcm : cb = m
   ·obtain rfl : cb = m := hcm
    have hv1 : VE = .slice B 0 0 := by rw [HVE.out, if_pos rfl]
    have HV1 := Lib.hid hv1
    clear hv1
    gi_wp2
    rw [← HV1.out]
    exact HFIN.out
   ·have hv1 : VE = .slice (B.map fun x => x.add m) 0 (cb - m) := by rw [HVE.out, if_neg hcm]
    have HV1 := Lib.hid hv1
    clear hv1
    gi_wp2
    rw [← HV1.out]
    exact HFIN.out
  ·go_simp
   refine hK _ _ ?_; clear hK K
   refine wpAnyIn_take (i := 4) (v := .slice B m cb) rfl rfl (by kernel_rfl) (by kernel_rfl) (by kernel_rfl) (fun _ _ _ h => h) ⟨Or.inl ⟨by rfl, by intro w; go_simp⟩, fun _ => rfl⟩ ?_
   refine wpAnyIn_ready (rs := [0, 5]) (by kernel_rfl) (by simp) ?_
   refine AllReadyIn.cons rfl (fun K hK => ?_) (AllReadyIn.cons rfl (fun K hK => ?_) AllReadyIn.nil)
   ·go_simp
    refine hK _ _ ?_; clear hK K
    refine wpAnyIn_ready (rs := [5]) (by kernel_rfl) (by simp) ?_
    refine AllReadyIn.cons rfl (fun K hK => ?_) AllReadyIn.nil
    gi_wp2_with ((refine ⟨trivial, ?_⟩; gi_at_call 87; refine (callsIn_wide.2 HPAY.out).mono ?_; rintro e w3 ⟨A3, n3, c3, X, rfl, hTX, hPX, hb3⟩))
    obtain rfl := HX0.out X hPX
    obtain ⟨hXl1, hXl2⟩ := HXL.out hPX
    have hn3 := hTX.len
    obtain ⟨ax, ox, rfl, -, -⟩ := hTX.top (by omega)
    have bA3 : Boxed w3 (w.heap.size + 1) 41 (.slice none 0 0) := (hb3.block _ bA2.lt).trans bA2
    have bB3 : Boxed w3 w.heap.size 22 (.slice B m cb) := (hb3.block _ bB2.lt).trans bB2
    have bS3 : Boxed w3 (w.heap.size + 1 + 1) 41 (.slice (some ⟨b, off, none⟩) N cN) := (hb3.block _ bS2.lt).trans bS2
    have bN3 : Boxed w3 (w.heap.size + 1 + 1 + 1) 3 (.int .i64 2048) := (hb3.block _ bN2.lt).trans bN2
    have HB3 := (below_drewN HB2.out 1).trans (hb3.mono (below_drewN HB2.out 1).size)
    have hcA3 := bA3.cell
    have own0 : w3.ownsRow w.heap.size 53 3 (.slice none 0 0) 0 [] := World.ownsRow_nil _ _ _ _
    refine wpAnyIn_ready (rs := [6]) (by kernel_rfl) (by simp) ?_
    refine AllReadyIn.cons rfl (fun K hK => ?_) AllReadyIn.nil
    refine stepIn_append_lies rfl (.tmp 13) (.tmp 18) 41 rfl w.heap.size 53 i3 (.agg #[.int .u8 0, .int .i64 0, .int .i64 0]) 3 24 Tryz.underlying41 hi3 hy0 hy1 hy2 rfl (by decide) (.slice none 0 0) 0 [] rfl own0 ⟨ax, ox, none⟩ n3 c3 (tC X) rfl (by rw [tC_length, hn3]) (hTX.news (by omega)) (tC_one X) (by omega) (by unfold maxLen; omega) (by omega) HB3.size _ rfl ?_
    intro g5 c5 w5 hown5 hg5 _ _
    rw [Nat.zero_add, List.nil_append] at hown5
    rw [Nat.zero_add]
    have hgn : ∀ k, (none : Option Nat) = some k → w.heap.size ≤ k := fun k h => by cases h
    have hB5 := HB3.grown hg5 HB3.size (fun k h => by cases h)
    have bA5 : Boxed w5 (w.heap.size + 1) 41 (.slice none 0 0) := bA3.kept hg5 (by simp [Value.ownBlock])
    have bB5 := bB3.kept hg5 (by simp [Value.ownBlock])
    have bS5 := bS3.kept hg5 (by simp [Value.ownBlock])
    have bN5 := bN3.kept hg5 (by simp [Value.ownBlock])
    have hc5 := bA5.cell
    have hf5 := bA5.frozen
    refine hK _ _ ?_; clear hK K
    refine wpAnyIn_ready (rs := [7]) (by kernel_rfl) (by simp) ?_
    refine AllReadyIn.cons rfl (fun K hK => ?_) AllReadyIn.nil
    go_simp
    refine hK _ _ ?_; clear hK K
    refine wpAnyIn_done (by kernel_rfl) ?_ _
    have bA6 := bA5.set (.slice (some ⟨g5, 0, none⟩) n3 c5)
    have bB6 := Boxed.other bB5 (show w.heap.size ≠ w.heap.size + 1 by omega) (.slice (some ⟨g5, 0, none⟩) n3 c5)
    have bS6 := Boxed.other bS5 (show w.heap.size + 1 + 1 ≠ w.heap.size + 1 by omega) (.slice (some ⟨g5, 0, none⟩) n3 c5)
    have bN6 := Boxed.other bN5 (show w.heap.size + 1 + 1 + 1 ≠ w.heap.size + 1 by omega) (.slice (some ⟨g5, 0, none⟩) n3 c5)
    have own6 := hown5.kept (grownBy_setCell' w5 (w.heap.size + 1) (.slice (some ⟨g5, 0, none⟩) n3 c5)) (.inr (bA5.not_row (by decide) hown5).symm)
    have hB6 := hB5.setCell (p := ⟨w.heap.size + 1, 0, none⟩) (show w.heap.size ≤ w.heap.size + 1 by omega) (.slice (some ⟨g5, 0, none⟩) n3 c5)
    have hKF := kf_trans (kf_trans (kf_trans (kf_trans (kf_below BW.out W0.heap.size) ((KeepsOthers.drew w2).from _)) (kf_below hb3 _)) ((KeepsOthers.of_grownBy hg5 (fun j o e => by cases e)).from _)) ((KeepsOthers.setCell w5 ⟨w.heap.size + 1, 0, none⟩ (.slice (some ⟨g5, 0, none⟩) n3 c5)).from _)
    have hBW : Below w.heap.size W (w5.setCell ⟨w.heap.size + 1, 0, none⟩ (.slice (some ⟨g5, 0, none⟩) n3 c5)) := ((((below_drewN (BW.out.mono HB1.out.size) 1).trans (hb3.mono (below_drewN HB2.out 1).size)).grown hg5 HB3.size (fun k h => by cases h))).setCell (p := ⟨w.heap.size + 1, 0, none⟩) (show w.heap.size ≤ w.heap.size + 1 by omega) _
    have hcB6 := bB6.cell
    have hfB6 := bB6.frozen
    have HKF := Lib.hid hKF
    have HBW := Lib.hid hBW
    have H6 := Lib.hid hB6
    have HPX := Lib.hid hPX
    have HN3 := Lib.hid hn3
    clear hKF hBW hB6 hPX hn3 hgn hB5 hg5 hb3 HB3
    have own7 := own6.kept (grownBy_setCell' _ w.heap.size VE) (.inr (bB6.not_row (by decide) own6).symm)
    have bA7 := Boxed.other bA6 (show w.heap.size + 1 ≠ w.heap.size by omega) VE
    have bB7 := bB6.set VE
    have bS7 := Boxed.other bS6 (show w.heap.size + 1 + 1 ≠ w.heap.size by omega) VE
    have bN7 := Boxed.other bN6 (show w.heap.size + 1 + 1 + 1 ≠ w.heap.size by omega) VE
    have HFIN : Hid (ownPostG W0.heap.size (Kc w.heap.size (w.heap.size + 1 + 1) (w.heap.size + 1 + 1 + 1)) (fun (pre : List (Fin 1)) W => (∃ v, Boxed W (w.heap.size + 1) 41 v ∧ W.ownsRow w.heap.size 53 3 v (pl1 pre * X.length) (tC (if pl1 pre = 0 then [] else X)) ∧ ((pl1 pre = 0 → v = .slice none 0 0) ∧ (pl1 pre ≠ 0 → PayR T l X))) ∧ (Boxed W w.heap.size 22 (if pl1 pre = 0 then .slice B m cb else VE) ∧ Boxed W (w.heap.size + 1 + 1) 41 (.slice (some ⟨b, off, none⟩) N cN) ∧ Boxed W (w.heap.size + 1 + 1 + 1) 3 (.int .i64 2048)) ∧ Below w.heap.size w W) (fun _ _ _ => False) ([] ++ [⟨0, hk1⟩]) W .normal { tmps := #[], defers := [] } ((w5.setCell ⟨w.heap.size + 1, 0, none⟩ (.slice (some ⟨g5, 0, none⟩) n3 c5)).setCell ⟨w.heap.size, 0, none⟩ VE)) :=
     ⟨kf_trans HKF.out ((KeepsOthers.setCell _ _ _).from _), ⟨HBW.out.setCell (p := ⟨w.heap.size, 0, none⟩) (Nat.le_refl _) VE, bS7.cell.trans BS.out.cell.symm, bN7.cell.trans BN.out.cell.symm⟩, ⟨_, bA7, by have e := HN3.out; subst e; simpa [pl1] using own7, fun h => absurd h (by simp [pl1]), fun _ => HPX.out⟩, ⟨bB7, bS7, bN7⟩, H6.out.setCell (p := ⟨w.heap.size, 0, none⟩) (Nat.le_refl _) VE⟩
    by_cases hcm : cb = m
    ·obtain rfl : cb = m := hcm
     have hv1 : VE = .slice B 0 0 := by rw [HVE.out, if_pos rfl]
     have HV1 := Lib.hid hv1
     clear hv1
     gi_wp2
     rw [← HV1.out]
     exact HFIN.out
    ·have hv1 : VE = .slice (B.map fun x => x.add m) 0 (cb - m) := by rw [HVE.out, if_neg hcm]
     have HV1 := Lib.hid hv1
     clear hv1
     gi_wp2
     rw [← HV1.out]
     exact HFIN.out
   ·skip
    gi_wp2_with ((refine ⟨trivial, ?_⟩; gi_at_call 87; refine (callsIn_wide.2 HPAY.out).mono ?_; rintro e w3 ⟨A3, n3, c3, X, rfl, hTX, hPX, hb3⟩))
    obtain rfl := HX0.out X hPX
    obtain ⟨hXl1, hXl2⟩ := HXL.out hPX
    have hn3 := hTX.len
    obtain ⟨ax, ox, rfl, -, -⟩ := hTX.top (by omega)
    have bA3 : Boxed w3 (w.heap.size + 1) 41 (.slice none 0 0) := (hb3.block _ bA2.lt).trans bA2
    have bB3 : Boxed w3 w.heap.size 22 (.slice B m cb) := (hb3.block _ bB2.lt).trans bB2
    have bS3 : Boxed w3 (w.heap.size + 1 + 1) 41 (.slice (some ⟨b, off, none⟩) N cN) := (hb3.block _ bS2.lt).trans bS2
    have bN3 : Boxed w3 (w.heap.size + 1 + 1 + 1) 3 (.int .i64 2048) := (hb3.block _ bN2.lt).trans bN2
    have HB3 := (below_drewN HB2.out 1).trans (hb3.mono (below_drewN HB2.out 1).size)
    have hcA3 := bA3.cell
    have own0 : w3.ownsRow w.heap.size 53 3 (.slice none 0 0) 0 [] := World.ownsRow_nil _ _ _ _
    refine wpAnyIn_ready (rs := [0]) (by kernel_rfl) (by simp) ?_
    refine AllReadyIn.cons rfl (fun K hK => ?_) AllReadyIn.nil
    go_simp
    refine hK _ _ ?_; clear hK K
    refine wpAnyIn_ready (rs := [6]) (by kernel_rfl) (by simp) ?_
    refine AllReadyIn.cons rfl (fun K hK => ?_) AllReadyIn.nil
    refine stepIn_append_lies rfl (.tmp 13) (.tmp 18) 41 rfl w.heap.size 53 i3 (.agg #[.int .u8 0, .int .i64 0, .int .i64 0]) 3 24 Tryz.underlying41 hi3 hy0 hy1 hy2 rfl (by decide) (.slice none 0 0) 0 [] rfl own0 ⟨ax, ox, none⟩ n3 c3 (tC X) rfl (by rw [tC_length, hn3]) (hTX.news (by omega)) (tC_one X) (by omega) (by unfold maxLen; omega) (by omega) HB3.size _ rfl ?_
    intro g5 c5 w5 hown5 hg5 _ _
    rw [Nat.zero_add, List.nil_append] at hown5
    rw [Nat.zero_add]
    have hgn : ∀ k, (none : Option Nat) = some k → w.heap.size ≤ k := fun k h => by cases h
    have hB5 := HB3.grown hg5 HB3.size (fun k h => by cases h)
    have bA5 : Boxed w5 (w.heap.size + 1) 41 (.slice none 0 0) := bA3.kept hg5 (by simp [Value.ownBlock])
    have bB5 := bB3.kept hg5 (by simp [Value.ownBlock])
    have bS5 := bS3.kept hg5 (by simp [Value.ownBlock])
    have bN5 := bN3.kept hg5 (by simp [Value.ownBlock])
    have hc5 := bA5.cell
    have hf5 := bA5.frozen
    refine hK _ _ ?_; clear hK K
    refine wpAnyIn_ready (rs := [7]) (by kernel_rfl) (by simp) ?_
    refine AllReadyIn.cons rfl (fun K hK => ?_) AllReadyIn.nil
    go_simp
    refine hK _ _ ?_; clear hK K
    refine wpAnyIn_done (by kernel_rfl) ?_ _
    have bA6 := bA5.set (.slice (some ⟨g5, 0, none⟩) n3 c5)
    have bB6 := Boxed.other bB5 (show w.heap.size ≠ w.heap.size + 1 by omega) (.slice (some ⟨g5, 0, none⟩) n3 c5)
    have bS6 := Boxed.other bS5 (show w.heap.size + 1 + 1 ≠ w.heap.size + 1 by omega) (.slice (some ⟨g5, 0, none⟩) n3 c5)
    have bN6 := Boxed.other bN5 (show w.heap.size + 1 + 1 + 1 ≠ w.heap.size + 1 by omega) (.slice (some ⟨g5, 0, none⟩) n3 c5)
    have own6 := hown5.kept (grownBy_setCell' w5 (w.heap.size + 1) (.slice (some ⟨g5, 0, none⟩) n3 c5)) (.inr (bA5.not_row (by decide) hown5).symm)
    have hB6 := hB5.setCell (p := ⟨w.heap.size + 1, 0, none⟩) (show w.heap.size ≤ w.heap.size + 1 by omega) (.slice (some ⟨g5, 0, none⟩) n3 c5)
    have hKF := kf_trans (kf_trans (kf_trans (kf_trans (kf_below BW.out W0.heap.size) ((KeepsOthers.drew w2).from _)) (kf_below hb3 _)) ((KeepsOthers.of_grownBy hg5 (fun j o e => by cases e)).from _)) ((KeepsOthers.setCell w5 ⟨w.heap.size + 1, 0, none⟩ (.slice (some ⟨g5, 0, none⟩) n3 c5)).from _)
    have hBW : Below w.heap.size W (w5.setCell ⟨w.heap.size + 1, 0, none⟩ (.slice (some ⟨g5, 0, none⟩) n3 c5)) := ((((below_drewN (BW.out.mono HB1.out.size) 1).trans (hb3.mono (below_drewN HB2.out 1).size)).grown hg5 HB3.size (fun k h => by cases h))).setCell (p := ⟨w.heap.size + 1, 0, none⟩) (show w.heap.size ≤ w.heap.size + 1 by omega) _
    have hcB6 := bB6.cell
    have hfB6 := bB6.frozen
    have HKF := Lib.hid hKF
    have HBW := Lib.hid hBW
    have H6 := Lib.hid hB6
    have HPX := Lib.hid hPX
    have HN3 := Lib.hid hn3
    clear hKF hBW hB6 hPX hn3 hgn hB5 hg5 hb3 HB3
    have own7 := own6.kept (grownBy_setCell' _ w.heap.size VE) (.inr (bB6.not_row (by decide) own6).symm)
    have bA7 := Boxed.other bA6 (show w.heap.size + 1 ≠ w.heap.size by omega) VE
    have bB7 := bB6.set VE
    have bS7 := Boxed.other bS6 (show w.heap.size + 1 + 1 ≠ w.heap.size by omega) VE
    have bN7 := Boxed.other bN6 (show w.heap.size + 1 + 1 + 1 ≠ w.heap.size by omega) VE
    have HFIN : Hid (ownPostG W0.heap.size (Kc w.heap.size (w.heap.size + 1 + 1) (w.heap.size + 1 + 1 + 1)) (fun (pre : List (Fin 1)) W => (∃ v, Boxed W (w.heap.size + 1) 41 v ∧ W.ownsRow w.heap.size 53 3 v (pl1 pre * X.length) (tC (if pl1 pre = 0 then [] else X)) ∧ ((pl1 pre = 0 → v = .slice none 0 0) ∧ (pl1 pre ≠ 0 → PayR T l X))) ∧ (Boxed W w.heap.size 22 (if pl1 pre = 0 then .slice B m cb else VE) ∧ Boxed W (w.heap.size + 1 + 1) 41 (.slice (some ⟨b, off, none⟩) N cN) ∧ Boxed W (w.heap.size + 1 + 1 + 1) 3 (.int .i64 2048)) ∧ Below w.heap.size w W) (fun _ _ _ => False) ([] ++ [⟨0, hk1⟩]) W .normal { tmps := #[], defers := [] } ((w5.setCell ⟨w.heap.size + 1, 0, none⟩ (.slice (some ⟨g5, 0, none⟩) n3 c5)).setCell ⟨w.heap.size, 0, none⟩ VE)) :=
     ⟨kf_trans HKF.out ((KeepsOthers.setCell _ _ _).from _), ⟨HBW.out.setCell (p := ⟨w.heap.size, 0, none⟩) (Nat.le_refl _) VE, bS7.cell.trans BS.out.cell.symm, bN7.cell.trans BN.out.cell.symm⟩, ⟨_, bA7, by have e := HN3.out; subst e; simpa [pl1] using own7, fun h => absurd h (by simp [pl1]), fun _ => HPX.out⟩, ⟨bB7, bS7, bN7⟩, H6.out.setCell (p := ⟨w.heap.size, 0, none⟩) (Nat.le_refl _) VE⟩
    by_cases hcm : cb = m
    ·obtain rfl : cb = m := hcm
     have hv1 : VE = .slice B 0 0 := by rw [HVE.out, if_pos rfl]
     have HV1 := Lib.hid hv1
     clear hv1
     gi_wp2
     rw [← HV1.out]
     exact HFIN.out
    ·have hv1 : VE = .slice (B.map fun x => x.add m) 0 (cb - m) := by rw [HVE.out, if_neg hcm]
     have HV1 := Lib.hid hv1
     clear hv1
     gi_wp2
     rw [← HV1.out]
     exact HFIN.out
 case done =>
  rintro D ys W hD rfl ⟨⟨v, hv, hrow, -, hP⟩, -, hB⟩ hK
  have hc := hv.cell
  have hl1 : pl1 (List.finRange 1) = 1 := by simp [pl1]
  rw [hl1] at hrow hP
  rw [if_neg (by decide), Nat.one_mul] at hrow
  gi_wp2
  refine ⟨by simp, .inl ⟨_, _, rfl, run_takeDeferred hK, ?_⟩⟩
  exact ⟨_, results_tmp rfl _ _ _, v, rfl, hP (by decide), ownsRow_putObj hrow _ hK rfl, hB.trans (belowK_b (w := w) (Nat.le_refl _) W D _ _ (by omega) hK rfl rfl)⟩
 case stop =>
  rintro D c pre W _ _ h _
  exact h.elim
end
section
open Go.RowKit
set_option maxRecDepth 1000000
set_option linter.unusedVariables false
theorem putStored_j {w : World} {p : Nat} {A : Option Addr} {len cap n : Nat} {X : List Bool} (h : Wr w p A len cap n X) (B : Option Addr) (m cb : Nat) (l : List F) (hJ : ∀ W b, WOut p (Value.slice A len cap).ownBlock b w W → RowIn W B m cb l) (hm : m ≤ 65535) (last : Bool) (hroom : n + 8 * m + 200 ≤ 1000000) :
  Calls Tryz.prog 50 #[.pointer (some ⟨p, 0, none⟩), .slice B m cb, .bool last] w fun e w' => e = .returned (.tuple #[]) ∧ ∃ A' len' cap' n', Wr w' p A' len' cap' n' (stoB X l last) ∧ WOut p (Value.slice A len cap).ownBlock (Value.slice A' len' cap').ownBlock w w' := by
 have HC := Lib.hid (Stored_j h B m cb l hJ hm last hroom)
 have hm1 : ¬ (65535 : Int) < (m : Int) := by omega
 clear h hJ hroom
 go_enter Tryz.func50, Tryz.ntmps50
 go_wp2
 go_loopw [1] (fun vb wr => vb = .slice B m cb ∧ w = wr) (fun _ _ => 0)
 case atStart => exact ⟨rfl, rfl⟩
 case round =>
  obtain ⟨rfl, rfl⟩ := hrel
  go_wp2_with fail
  refine HC.out.mono ?_
  rintro e w1 ⟨rfl, h1⟩
  have H1 := Lib.hid h1
  clear h1
  go_wp2
  go_end0
  exact ⟨rfl, H1.out⟩
theorem dynB_yj {w : World} {p : Nat} {A : Option Addr} {len cap m : Nat} {X : List Bool} (h : Wr w p A len cap m X)
  (C : Option Addr) (N c : Nat) (T : List Tok) (hJ : ∀ W b, WOut p (Value.slice A len cap).ownBlock b w W → Tabs W ∧ TRow W C N T) (hN : N ≤ 1000) (hok : okF T = N) (last : Bool) (hroom : m + 128 * N + 40000 ≤ 1000000) :
  Calls Tryz.prog 26 #[.pointer (some ⟨p, 0, none⟩), .slice C N c, .bool last] w fun e w' => e = .returned (.int .i64 0) ∧ ∃ A' len' cap' m' Y, DynY T last Y ∧ Wr w' p A' len' cap' m' (X ++ Y) ∧ WOut p (Value.slice A len cap).ownBlock (Value.slice A' len' cap').ownBlock w w' :=
 (DynamicB_j h C N c T hJ hN hok last hroom).mono fun e w' ⟨he, A', len', cap', m', LL, LD, R, LA, h1, h2, h3, h4, hW, hO⟩ => ⟨he, A', len', cap', m', _, ⟨LL, LD, LA, R, h1, h2, h3, h4, rfl⟩, hW, hO⟩
set_option maxHeartbeats 4000000 in
theorem put1_j {w : World} {p : Nat} (h : Wr w p none 0 0 0 []) (C : Option Addr) (N c : Nat) (X : List Tok) (B : Option Addr) (m cb : Nat) (l : List F) (hJ : ∀ W b, WOut p none b w W → (Tabs W ∧ TRow W C N X) ∧ RowIn W B m cb l) (hG : Good X l) (hm : m ≤ 1000) (k : Nat) (hk : k = 0 ∨ k = 1 ∨ k = 2) :
  Calls Tryz.prog 40 #[.agg #[.slice C N c, .slice B m cb, .int .i64 k], .pointer (some ⟨p, 0, none⟩), .bool true] w fun e w' => e = .returned (.tuple #[]) ∧ ∃ A' len' cap' n' Y, KindY X l k Y ∧ Wr w' p A' len' cap' n' Y ∧ WOut p none (Value.slice A' len' cap').ownBlock w w' := by
 have hba := (Below.refl w.heap.size w).alloc (Nat.le_refl _) (.cells #[.slice C N c, .slice B m cb, .int .i64 k] 77)
 have k3 := Blk.new w 77 #[.slice C N c, .slice B m cb, .int .i64 k]
 have hsz : w.heap.size ≤ (w.alloc (.cells #[.slice C N c, .slice B m cb, .int .i64 k] 77)).heap.size := hba.size
 have HBA := Lib.hid hba
 have HW := Lib.hid (h.below hba)
 have h0 := hJ w none (WOut.refl _ _ _)
 have HJ : Hid (∀ W b, WOut p none b (w.alloc (.cells #[.slice C N c, .slice B m cb, .int .i64 k] 77)) W → (Tabs W ∧ TRow W C N X) ∧ RowIn W B m cb l) := fun W b ho => hJ W b (ho.low hsz (fun q hq => hba.block q hq) hba.os hba.tape hba.output)
 have hN : N ≤ 1000 := by have := hG.le; have := h0.1.2.len; have := h0.2.row.len; omega
 have HOK : Hid (okF X = N) := by unfold Hid; rw [hG.okF, h0.1.2.len]
 obtain ⟨⟨c0, c1, c2⟩, -⟩ := k3.trip
 clear hba h hJ h0 hG
 go_enter Tryz.func40, Tryz.ntmps40
 rcases hk with hk | hk | hk
 ·have z0 : ((k : Int) == 0) = true := by rw [beq_iff_eq]; omega
  have HK := Lib.hid hk
  clear hk
  go_wp2_with fail
  generalize w.alloc (.cells #[.slice C N c, .slice B m cb, .int .i64 k] 77) = W0 at *
  refine (putStored_j HW.out B m cb l (fun W b ho => (HJ.out W b ho).2) (by omega) true (by omega)).mono ?_
  rintro e w1 ⟨rfl, A1, len1, cap1, n1, hW1, hO1⟩
  have HW1 := Lib.hid hW1
  have HO1 := Lib.hid (hO1.low hsz (fun q hq => HBA.out.block q hq) HBA.out.os HBA.out.tape HBA.out.output)
  clear hW1 hO1
  go_wp2
  go_end0
  exact ⟨rfl, A1, len1, cap1, n1, _, .inl ⟨HK.out, rfl⟩, HW1.out, HO1.out⟩
 ·have z0 : ((k : Int) == 0) = false := by rw [beq_eq_false_iff_ne]; omega
  have z1 : ((k : Int) == 1) = true := by rw [beq_iff_eq]; omega
  have HK := Lib.hid hk
  clear hk
  go_wp2_with fail
  generalize w.alloc (.cells #[.slice C N c, .slice B m cb, .int .i64 k] 77) = W0 at *
  refine (FixedB_j HW.out C N c X (fun W b ho => (HJ.out W b ho).1) hN HOK.out true (by omega)).mono ?_
  rintro e w1 ⟨rfl, A1, len1, cap1, n1, hW1, hO1⟩
  have HW1 := Lib.hid hW1
  have HO1 := Lib.hid (hO1.low hsz (fun q hq => HBA.out.block q hq) HBA.out.os HBA.out.tape HBA.out.output)
  clear hW1 hO1
  go_wp2
  go_end0
  exact ⟨rfl, A1, len1, cap1, n1, _, .inr (.inl ⟨HK.out, rfl⟩), HW1.out, HO1.out⟩
 ·have z0 : ((k : Int) == 0) = false := by rw [beq_eq_false_iff_ne]; omega
  have z1 : ((k : Int) == 1) = false := by rw [beq_eq_false_iff_ne]; omega
  have z2 : ((k : Int) == 2) = true := by rw [beq_iff_eq]; omega
  have HK := Lib.hid hk
  clear hk
  go_wp2_with fail
  generalize w.alloc (.cells #[.slice C N c, .slice B m cb, .int .i64 k] 77) = W0 at *
  refine (dynB_yj HW.out C N c X (fun W b ho => (HJ.out W b ho).1) hN HOK.out true (by omega)).mono ?_
  rintro e w1 ⟨rfl, A1, len1, cap1, n1, Y, hY, hW1, hO1⟩
  have HW1 := Lib.hid hW1
  have HY := Lib.hid hY
  have HO1 := Lib.hid (hO1.low hsz (fun q hq => HBA.out.block q hq) HBA.out.os HBA.out.tape HBA.out.output)
  clear hW1 hO1 hY
  go_wp2
  go_end0
  exact ⟨rfl, A1, len1, cap1, n1, _, .inr (.inr ⟨HK.out, HY.out⟩), HW1.out, HO1.out⟩
section
open Go.Shelf
attribute [local go_sem] Oper.semAt_some
set_option maxHeartbeats 4000000 in
theorem worth0_in (C : Option Addr) (c : Nat) (w : World) (N : Nat) (h0 : N = 0) (B : Option Addr) (m cb : Nat) :
  CallsIn Fence.wide 6 Tryz.prog 39 #[.slice C N c, .slice B m cb] w fun e W' => e = .returned (.slice none 0 0) ∧ Below w.heap.size w W' := by
 subst h0
 refine callsIn_of_wp_marks Tryz.func39 rfl trivial ?_ rfl
 simp only [Tryz.ntmps39, List.size_toArray, List.length_cons, List.length_nil, Nat.reduceAdd, Nat.reduceSub, Array.replicate_succ, Array.replicate_zero, List.push_toArray, List.append_toArray, List.nil_append, List.cons_append]
 gi_wp2_with (refine ⟨trivial, ?_⟩; gi_at_call 86; refine (chunkT_in Fence.wide _ trivial rfl _ 0 c 2048 (by decide) (by decide) _).mono ?_; rintro e w' ⟨rfl, rfl⟩)
 have hsz4 : ((((w.alloc (.cells #[.slice B m cb] 22)).alloc (.cells #[.slice none 0 0] 41)).alloc (.cells #[.slice C 0 c] 41)).alloc (.cells #[.int .i64 2048] 3)).heap.size = w.heap.size + 4 := by simp
 have hB0 : Below w.heap.size w ((((w.alloc (.cells #[.slice B m cb] 22)).alloc (.cells #[.slice none 0 0] 41)).alloc (.cells #[.slice C 0 c] 41)).alloc (.cells #[.int .i64 2048] 3)) := ((((Below.refl _ w).alloc (Nat.le_refl _) _).alloc (by simp) _).alloc (by simp; omega) _).alloc (by simp; omega) _
 have x1 := ((Boxed.new (w.alloc (.cells #[.slice B m cb] 22)) 41 (.slice none 0 0)).alloc (.cells #[.slice C 0 c] 41)).alloc (.cells #[.int .i64 2048] 3)
 have x2 := (Boxed.new ((w.alloc (.cells #[.slice B m cb] 22)).alloc (.cells #[.slice none 0 0] 41)) 41 (.slice C 0 c)).alloc (.cells #[.int .i64 2048] 3)
 rw [World.size_alloc] at x1
 rw [World.size_alloc, World.size_alloc] at x2
 generalize hW0 : (((w.alloc (.cells #[.slice B m cb] 22)).alloc (.cells #[.slice none 0 0] 41)).alloc (.cells #[.slice C 0 c] 41)).alloc (.cells #[.int .i64 2048] 3) = W0 at *
 clear hW0
 have c1 := x2.cell
 have hseq : SeqStopsK Fence.wide (6 - 1) Tryz.prog 130 #[.pointer (some ⟨w.heap.size + 1 + 1, 0, none⟩), .pointer (some ⟨w.heap.size + 1 + 1 + 1, 0, none⟩)] (fun k : Nat => #[Value.slice none 0 0]) (Below w.heap.size) (fun ys => ys = []) (fun _ => False) 0 W0 := fun ll J Jx W hW hJ _ hY h0 =>
  (chunkT0_in Fence.wide (6 - 1) trivial rfl ll (w.heap.size + 1 + 1) (w.heap.size + 1 + 1 + 1) c C J W ((hW.cell (p := ⟨w.heap.size + 1 + 1, 0, none⟩) (show w.heap.size + 1 + 1 < W0.heap.size by omega)).trans c1) h0).mono fun e W' ⟨he, hj⟩ => ⟨he, .inl ⟨[], rfl, hj⟩⟩
 refine wpIn_rangeFunc_ownG rfl (by omega) (gf := 130) (lb := #[.pointer (some ⟨w.heap.size + 1 + 1, 0, none⟩), .pointer (some ⟨w.heap.size + 1 + 1 + 1, 0, none⟩)]) rfl trivial (enters_of Tryz.func130 (by kernel_rfl) rfl)
  hseq belowK_t (belowK_b (by omega)) (Below.refl _ _) (fun _ => rfl)
  (fun pre W => Boxed W (w.heap.size + 1) 41 (.slice none 0 0) ∧ Below w.heap.size w W)
  (fun _ _ _ => False)
  (OwnFrom.and (Own.from (boxed_own (w.heap.size + 1) 41 (fun _ => .slice none 0 0)) _) (ownFrom_below (Nat.le_refl _) (by omega)))
  (fun _ _ _ _ _ hs _ _ => hs)
  ⟨x1, hB0⟩
  (fun k => { tmps := #[.slice C 0 c, .slice B m cb, undef, .pointer (some ⟨w.heap.size, 0, none⟩), .slice none 0 0, .pointer (some ⟨w.heap.size + 1, 0, none⟩), .slice none 0 0, undef, .slice C 0 c,
        .func (.func 130) #[] #[.pointer (some ⟨w.heap.size + 1 + 1, 0, none⟩), .pointer (some ⟨w.heap.size + 1 + 1 + 1, 0, none⟩)], .slice none 0 0, undef, undef, undef, undef, undef, undef, undef, undef, undef, undef, undef, undef, undef], defers := [] }) ?assign ?body ?done ?stop
 case assign =>
  intro l x W K hK
  gi_wp2
  exact hK
 case body =>
  intro ll pre x W _ hlt
  exact absurd hlt (Nat.not_lt_zero _)
 case done =>
  rintro D ys W hD rfl ⟨hv, hB⟩ hK
  have hc := hv.cell
  gi_wp2
  refine ⟨by simp, .inl ⟨_, _, rfl, run_takeDeferred hK, ?_⟩⟩
  exact ⟨_, results_tmp rfl _ _ _, rfl, hB.trans (belowK_b (w := w) (Nat.le_refl _) W D _ _ (by omega) hK rfl rfl)⟩
 case stop =>
  rintro D c pre W _ _ h _
  exact h.elim
end
theorem worthwhile_c (w : World) (htb : Tabs w) (C : Option Addr) (N c : Nat) (T : List Tok) (hT : TRow w C N T) (hNc : N ≤ c) (B : Option Addr) (m cb : Nat) (l : List F) (hl : RowIn w B m cb l) (hG : Good T l) (hm : m ≤ 1000) :
  Calls Tryz.prog 39 #[.slice C N c, .slice B m cb] w fun e w' => ∃ (A' : Option Addr) (n' c' : Nat) (X : List Tok), e = .returned (.slice A' n' c') ∧ TRow w' A' n' X ∧ PayR T l X ∧ (∀ b o, A' = some ⟨b, o, none⟩ → w.heap.size ≤ b) ∧ Below w.heap.size w w' := by
 have hln := hl.row.len
 have hTl := hT.len
 rcases Nat.eq_zero_or_pos N with h0 | h0
 ·obtain rfl : T = [] := List.eq_nil_of_length_eq_zero (by omega)
  obtain rfl : l = [] := by
   have h1 : exF l.length [] [] = .ok l := hG.ex
   injection h1 with h1
   exact h1.symm
  refine (callsIn_wide.1 (worth0_in C c w N h0 B m cb)).mono ?_
  rintro e w' ⟨rfl, hb⟩
  exact ⟨none, 0, 0, [], rfl, ⟨rfl, by unfold maxLen; omega, fun h => by omega, fun i h => by omega⟩, by unfold PayR; split; exact rfl; exact absurd rfl (by assumption), (fun b o h => by cases h), hb⟩
 ·obtain ⟨b, off, rfl, hlt, -⟩ := hT.top h0
  obtain ⟨X0, hX0⟩ : ∃ X0, ∀ X, PayR T l X → X = X0 := by
   by_cases h : ∃ X, PayR T l X
   ·obtain ⟨X0, h1⟩ := h
    exact ⟨X0, fun X hx => hx.unique h1⟩
   ·exact ⟨[], fun X hx => absurd ⟨X, hx⟩ h⟩
  refine (callsIn_wide.1 (worth_in b off N c T w htb hT hlt hNc h0 B m cb l hl hG hm X0 hX0)).mono ?_
  rintro e w' ⟨v, rfl, hP, hown, hb⟩
  have hGX := hP.good hG
  obtain ⟨A', c', rfl, -⟩ := own3_shape hown
  exact ⟨A', X0.length, c', X0, rfl, hGX.row hown rfl (by omega), hP, fun b o e => by subst e; rcases hown.2 with ⟨hv, _⟩ | ⟨g, cap, cur, hv, hbg, _⟩ <;> cases hv; exact hbg, hb⟩
theorem info_pt : (Tryz.prog.info? 77).map (·.size) = some 3 := by kernel_rfl
theorem ld_pt {w : World} {g : Nat} {C : Array Value} (h : Blk w g 77 C) (hC : C.size = 3) : Sem.run Tryz.prog (loadVar 77 ⟨g, 0, none⟩) w = .ok (.agg C) w :=
 run_loadVar_row w g _ _ _ (0, 0) _ h Tryz.underlying77 rfl (by rw [info_pt, hC])
theorem fdGo_litD {l : List F} {lev : Nat} : ∀ (f : Nat) {s : Fs} {t : Nat × Nat} {ts : List Tok}, (∀ t ∈ ts, t.len = 0 → t.dist = 0) → ∀ t2 ∈ fdGo l lev f s t ts, t2.len = 0 → t2.dist = 0 := by
 intro f
 induction f with
 | zero => intro s t ts h; exact h
 | succ f ih =>
  intro s t ts h
  unfold fdGo
  split
  ·split
   ·refine ih fun u hu => ?_
    rcases List.mem_append.1 hu with h2 | h2
    ·exact h u h2
    ·rw [List.mem_singleton.1 h2]; exact fun _ => rfl
   ·rename_i hn
    refine ih fun u hu => ?_
    rcases List.mem_append.1 hu with h2 | h2
    ·exact h u h2
    ·rw [List.mem_singleton.1 h2]
     intro h3
     exact absurd (.inl (by have h4 : (t.1 : Int) = 0 := h3; omega)) hn
  ·exact h
theorem fd_good (l : List F) (lev : Nat) : Good (fdF l lev) l := ⟨(fdF_ok l lev).1, fdGo_litD _ (fun _ h => absurd h (List.not_mem_nil))⟩
set_option maxHeartbeats 8000000 in
theorem Pack_c (w : World) (htb : Tabs w) (B : Option Addr) (m cb : Nat) (l : List F) (hl : RowIn w B m cb l) (hm : m ≤ 1000) (level : Int) (hlv : 0 < level) (lev : Nat) (hlev : min (max level 0) 9 = (lev : Int)) :
  Calls Tryz.prog 12 #[.slice B m cb, .int .i64 level] w fun e w' => ∃ A' len' c' Y, e = .returned (.slice A' len' c') ∧ PackR (fdF l lev) l Y ∧ len' = (pack Y).length ∧ w'.ownsRow w.heap.size 5 1 (.slice A' len' c') len' (cs (pack Y)) ∧ Below w.heap.size w w' := by
 have hln := hl.row.len
 have HW0 := Lib.hid (Wr.fresh w #[.slice none 0 0, .int .i64 0] rfl)
 have HB0 : Hid (Below w.heap.size w (w.alloc (.cells #[.slice none 0 0, .int .i64 0] 45))) := (Below.refl _ _).alloc (Nat.le_refl _) _
 have HS0 : Hid (w.heap.size < (w.alloc (.cells #[.slice none 0 0, .int .i64 0] 45)).heap.size) := by unfold Hid; simp
 have HL := Lib.hid hl
 have HLN := Lib.hid hln
 have HTB := Lib.hid htb
 have HG := Lib.hid (fd_good l lev)
 have HLEV := Lib.hid hlev
 have z0 : ¬ level ≤ 0 := by omega
 clear hl htb hln hlv hlev
 go_enter Tryz.func12, Tryz.ntmps12
 go_wp2_with fail
 generalize w.alloc (.cells #[.slice none 0 0, .int .i64 0] 45) = W0 at *
 refine (Find_c B m cb l W0 (HL.out.below HB0.out) (by omega) level lev HLEV.out).mono ?_
 rintro e w1 ⟨A1, c1, N1, rfl, hN1, hown1, hb1⟩
 have HC1 : Hid (N1 ≤ c1) := by
  obtain ⟨A', c', hv, h1, -⟩ := own3_shape hown1
  injection hv with _ _ hv
  unfold Hid
  omega
 have HT1 := Lib.hid (HG.out.row hown1 hN1 (by rw [HLN.out]; exact hm))
 have HB1 := Lib.hid (HB0.out.trans (hb1.mono HB0.out.size))
 have HW1 := Lib.hid (HW0.out.below hb1)
 have HSW1 : Hid (w.heap.size < w1.heap.size) := by have := HS0.out; have := hb1.size; unfold Hid; omega
 clear hN1 hown1 hb1 HW0
 go_wp2_with fail
 refine (worthwhile_c w1 (HTB.out.below HB1.out) A1 N1 c1 (fdF l lev) HT1.out HC1.out B m cb l (HL.out.below HB1.out) HG.out hm).mono ?_
 rintro e w2 ⟨A2, n2, c2, X, rfl, hTX, hPX, hA2, hb2⟩
 have HA2 : Hid (∀ b o, A2 = some ⟨b, o, none⟩ → b ≠ w.heap.size ∧ (none : Option Nat) ≠ some b) := fun b o e => ⟨by have := hA2 b o e; have := HSW1.out; omega, by simp⟩
 have HX := Lib.hid hTX
 have HP := Lib.hid hPX
 have HGX := Lib.hid (hPX.good HG.out)
 have HB2 := Lib.hid (HB1.out.trans (hb2.mono HB1.out.size))
 have HW2 := Lib.hid (HW1.out.below hb2)
 have hn2 : n2 ≤ 1000 := by have := (hPX.good HG.out).le; have := hTX.len; have := HLN.out; omega
 have HOK : Hid (okF X = n2) := by unfold Hid; rw [(hPX.good HG.out).okF, hTX.len]
 clear hTX hPX hb2 HB0 HB1 HW1 HT1 HC1 HS0
 go_wp2_with fail
 refine (shortest_c w2 (HTB.out.below HB2.out) A2 n2 c2 X HX.out hn2 HOK.out B m cb l HLN.out (by omega) 0 (by omega)).mono ?_
 rintro e w3 ⟨g, k, s, rfl, hA, -, hg, hg0, hb3⟩
 have hf0 := fld_pl0 g s
 have HA := Lib.hid hA
 have HGB := Lib.hid hg
 have HX3 := Lib.hid (HX.out.below hb3)
 have HB3 := Lib.hid (HB2.out.trans (hb3.mono HB2.out.size))
 have HW3 := Lib.hid (HW2.out.below hb3)
 clear hA hg hg0 hb3 HB2 HW2 HX
 go_wp2
 go_loopw [23] (fun vi wr => ∃ i : Nat, i ≤ 1 ∧ vi = .int .i64 i ∧ Hid (i = 0 → wr = w3) ∧ Hid (i = 1 → ∃ A' len' cap' n' Y, KindY X l k Y ∧ Wr wr w.heap.size A' len' cap' n' Y ∧ Below w.heap.size w wr)) (fun vi _ => 1 - (intOf vi).toNat)
 case atStart => exact ⟨0, by omega, rfl, fun _ => rfl, fun h => by omega⟩
 case round =>
  obtain ⟨i, hi, rfl, h0, h1⟩ := hrel
  rcases (show i = 0 ∨ i = 1 by omega) with rfl | rfl
  ·obtain rfl := h0.out rfl
   clear h0 h1
   obtain ⟨⟨p0, p1, p2⟩, -⟩ := HGB.out.trip
   have hba := (Below.refl wr.heap.size wr).alloc (Nat.le_refl _) (.cells #[.slice A2 n2 c2, .slice B m cb, .int .i64 k] 77)
   have K8 := Blk.new wr 77 #[.slice A2 n2 c2, .slice B m cb, .int .i64 k]
   have t8 := ld_pt K8 rfl
   have tg8 := ld_pt HGB.out rfl
   have hWa := HW3.out.below hba
   have hTa := HX3.out.below hba
   have hBa := HB3.out.trans (hba.mono HB3.out.size)
   have HPUT := Lib.hid (put1_j hWa A2 n2 c2 X B m cb l (fun W b ho => by
    have hbw := hWa.keeps ho hBa (Nat.le_refl _)
    exact ⟨⟨HTB.out.below hbw, hTa.wout ho HA2.out⟩, HL.out.below hbw⟩) HGX.out hm k HA.out.kind)
   have HBa := Lib.hid hBa
   have HWa := Lib.hid hWa
   clear hWa hTa hBa hba K8
   go_wp2_with fail
   refine HPUT.out.mono ?_
   rintro e w4 ⟨rfl, A4, len4, cap4, n4, Y, hK, hW4, hO4⟩
   have HE : Hid (∃ A' len' cap' n' Y, KindY X l k Y ∧ Wr w4 w.heap.size A' len' cap' n' Y ∧ Below w.heap.size w w4) := ⟨A4, len4, cap4, n4, Y, hK, hW4, HWa.out.keeps hO4 HBa.out (Nat.le_refl _)⟩
   clear hK hW4 hO4
   go_wp2
   go_roundw
   case rel => exact ⟨1, Nat.le_refl _, by first | rfl | go_num, fun h => by omega, fun _ => HE.out⟩
   case measure => simp [intOf]
  ·obtain ⟨A4, len4, cap4, n4, Y, hK, hW4, hb4⟩ := h1.out rfl
   have HK4 := Lib.hid hK
   have HW4 := Lib.hid hW4
   have HB4 := Lib.hid hb4
   clear h0 h1 hK hW4 hb4
   go_wp2_with fail
   refine (DoneB_c HW4.out).mono ?_
   rintro e w5 ⟨A5, c5, rfl, hown, hb⟩
   have HO := Lib.hid (own_base hown HB4.out.size)
   have HL5 := Lib.hid (own_len hown)
   have HB5 := Lib.hid (HB4.out.trans (hb.mono HB4.out.size))
   clear hown hb
   go_wp2
   go_ret
   exact ⟨A5, len4, c5, Y, rfl, ⟨X, k, s, HP.out, HA.out, HK4.out⟩, HL5.out.symm, HO.out, HB5.out⟩
set_option maxHeartbeats 4000000 in
theorem Pack0_c (w : World) (B : Option Addr) (m cb : Nat) (l : List F) (hl : RowIn w B m cb l) (hm : m ≤ 65535) (level : Int) (hlv : ¬ 0 < level) :
  Calls Tryz.prog 12 #[.slice B m cb, .int .i64 level] w fun e w' => ∃ A' len' c', e = .returned (.slice A' len' c') ∧ len' = (pack (stoB [] l true)).length ∧ w'.ownsRow w.heap.size 5 1 (.slice A' len' c') len' (cs (pack (stoB [] l true))) ∧ Below w.heap.size w w' := by
 have HD := Lib.hid (DStored_c w B m cb l hl hm)
 have z0 : level ≤ 0 := by omega
 clear hl hlv
 go_enter Tryz.func12, Tryz.ntmps12
 go_wp2_with fail
 refine HD.out.mono ?_
 rintro e w1 ⟨A1, n1, c1, rfl, h1, h2, h3⟩
 have H1 := Lib.hid h1
 have H2 := Lib.hid h2
 clear h1 h2
 go_wp2
 go_ret
 exact ⟨A1, n1, c1, rfl, H1.out, H2.out, h3⟩
end
section
open Go.RowKit
set_option maxRecDepth 1000000
set_option linter.unusedVariables false
theorem PackR.fix {T : List Tok} {l : List F} {Y : List Bool} (h : PackR T l Y) : Y.length ≤ (fixB T false).length := by
 obtain ⟨X, k, s, h1, h2, h3⟩ := h
 have e := h2.bits h3
 rw [e]
 unfold PayR at h1
 split at h1
 ·rw [h1] at h2; exact h2.le.2
 ·obtain ⟨ka, a, ks, q, kt, t, g1, g2, g3, g4⟩ := h1
  have ht := g3.le.2
  obtain ⟨u, hu⟩ : ∃ u, u = if q < t then q else t := ⟨_, rfl⟩
  rw [← hu] at g4
  have hut : u ≤ t := by rw [hu]; split <;> omega
  split at g4
  ·rw [g4] at h2
   have := (h2.unique g1).2
   omega
  ·split at g4
   ·rw [g4] at h2
    have := (h2.unique g2).2
    omega
   ·rw [g4] at h2
    have := (h2.unique g3).2
    omega
theorem PackR.un2 {T : List Tok} {l : List F} {Y : List Bool} (h : PackR T l Y) (hT : Good T l) (hl : l.length ≤ 65535) {M : Nat} (hM : l.length ≤ M) : unpF (pack Y) M = .ok ⟨Y.length, l⟩ := by
 obtain ⟨X, k, s, h1, h2, h3⟩ := h
 have hX := exF_room hM (h1.good hT).ex
 rcases h3 with ⟨rfl, rfl⟩ | ⟨rfl, rfl⟩ | ⟨rfl, hD⟩
 ·have h1 := (UpTo.nil M).done (BkS.sto (last := true) (X := []) (b := l) (o := []) hl (by simpa using hM))
  simpa using h1
 ·have h1 := (UpTo.nil M).done (BkS.fixed (last := true) (X := []) hX)
  simpa using h1
 ·have h1 := (UpTo.nil M).done (BkS.dyn (X := []) hX hD)
  simpa using h1
theorem PackR.pos {T : List Tok} {l : List F} {Y : List Bool} (h : PackR T l Y) : 0 < Y.length := by
 obtain ⟨X, k, s, h1, h2, h3⟩ := h
 rcases h3 with ⟨rfl, rfl⟩ | ⟨rfl, rfl⟩ | ⟨rfl, hD⟩
 ·rw [stoB_len]; omega
 ·rw [fixB_length]; omega
 ·exact hD.pos
theorem row_litD (w : World) (l : List F) (n g : Nat) (hn : n = l.length) (hg : g = w.heap.size) (hl : l.length ≤ maxLen) (C : Array Value) (hC : C = (cs l).toArray) (t : TypeId) (fz : Nat × Nat) : RowIn (w.alloc (.cells C t fz)) (some ⟨g, 0, none⟩) n n l := by
 subst hn hC hg
 refine ⟨⟨rfl, hl, fun h => ⟨w.heap.size, 0, rfl, by simp, fun i hi => ?_⟩⟩, Nat.le_refl _, hl⟩
 rw [cell_of_row (w.alloc (.cells (cs l).toArray t fz)) w.heap.size (0 + i) (cs l).toArray t fz (heap_alloc_new w _), Nat.zero_add]
 simpa using cs_at hi
end
end Go.Proofs.YtldgdofefcehnaaGreatDoor
