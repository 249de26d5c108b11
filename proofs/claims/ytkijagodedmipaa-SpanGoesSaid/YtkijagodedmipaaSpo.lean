/-
  LAW 22: the document's own Record: byte by byte. Conditions: right volumes.
-/
import Derived.Test.YtkijagodedmipaaSpn
namespace Go.Proofs.Ytkijagodedmipaa
open Go.RowKit
set_option maxRecDepth 100000
set_option linter.unusedVariables false

/-- so far as a record is laid -/
def rcv (ft : Bool) (v : Vs) (l : List F) : Vs := if ft then ⟨v.P, v.q ++ l⟩ else if l = [] then v else ⟨v.P ++ [v.q], l⟩
theorem rcv_nil (ft : Bool) (v : Vs) : rcv ft v [] = v := by
  unfold rcv
  cases ft
  · rfl
  · simp
theorem rcv_put {S : Nat} {v : Vs} {b : List F} (hb : b ≠ []) : rcv (decide (v.q.length + b.length ≤ S)) v b = vput S v b := by
  unfold rcv vput
  by_cases e : v.q.length + b.length ≤ S
  · rw [decide_eq_true e, if_pos rfl, if_pos e]
  · rw [decide_eq_false e, if_neg (by decide), if_neg hb, if_neg e]
theorem rcv_first (ft : Bool) (v : Vs) (x : F) : dput (rcv ft v []) x (!ft) = rcv ft v [x] := by
  rw [rcv_nil]
  unfold dput rcv
  cases ft
  · rfl
  · rfl
theorem rcv_next (ft : Bool) (v : Vs) (l : List F) (hl : l ≠ []) (x : F) : dput (rcv ft v l) x false = rcv ft v (l ++ [x]) := by
  unfold dput rcv
  cases ft
  · simp [hl]
  · simp
theorem rcv_len (ft : Bool) (v : Vs) (l : List F) : (rcv ft v l).P.length ≤ v.P.length + 1 ∧ (rcv ft v l).q.length ≤ v.q.length + l.length := by
  unfold rcv
  cases ft
  · by_cases e : l = []
    · simp [e]
    · simp [e]
  · simp
/-- what the document's Record answers -/
def RdR (G : Nat → Prop) (w : World) (S : Nat) (v : Vs) (b : List F) (e : Ending) (w' : World) : Prop :=
  ∃ A' c', e = .returned (.tuple #[dwV S A' ((recF S v b).1.P.length + 1) c', plV (((recF S v b).2.1 : Nat) : Int) (((recF S v b).2.2.1 : Nat) : Int), .int .i64 (((recF S v b).2.2.2 : Nat) : Int)]) ∧ Dw (fun y => G y ∨ w.heap.size ≤ y) w' (recF S v b).1 A' c' ∧ Below w.heap.size w w'
theorem RdR.of {G : Nat → Prop} {w : World} {S : Nat} {v v' : Vs} {b : List F} {e : Ending} {w' : World} (d o k : Nat) (A' : Option Addr) (c' : Nat) (hr : recF S v b = (v', d, o, k)) (he : e = .returned (.tuple #[dwV S A' (v'.P.length + 1) c', plV (d : Int) (o : Int), .int .i64 (k : Int)])) (hD : Dw (fun y => G y ∨ w.heap.size ≤ y) w' v' A' c') (hb : Below w.heap.size w w') : RdR G w S v b e w' := by
  unfold RdR
  rw [hr]
  exact ⟨A', c', he, hD, hb⟩
set_option maxHeartbeats 8000000 in
theorem RRecord_c {G : Nat → Prop} {w : World} {S : Nat} {v : Vs} {A : Option Addr} {c : Nat} (h : Dw G w v A c) (hv : VOk S v) (hS : S ≤ 16777216) {B : Option Addr} {n cb : Nat} {b : List F} (hb : RowIn w B n cb b) (hm : v.flat.length + n ≤ 50000) :
    Calls Try.prog 12 #[dwV S A (v.P.length + 1) c, .slice B n cb] w fun e w' => RdR G w S v b e w' := by
  have hS1 : 1 ≤ S := Nat.le_trans hv.q1 hv.qS
  have hlen := hb.row.len
  have hnm := hb.row.max
  have hcnt0 := hv.count
  have H := Lib.hid h
  have HV := Lib.hid hv
  have HRB := Lib.hid hb
  have HM := Lib.hid (And.intro hlen hm)
  clear h hv hb hlen
  generalize hWn : v.P.length + 1 = n0 at *
  have HWN := Lib.hid hWn
  clear hWn
  unfold dwV
  have hb1 := (Below.refl w.heap.size w).alloc (Nat.le_refl _) (.cells #[.int .i64 S, .slice A n0 c] 31)
  have hb2 := hb1.alloc hb1.size (.cells #[.int .i64 0, .slice none 0 0] 31)
  have hb3 := hb2.alloc hb2.size (.cells #[.int .i64 0, .int .i64 0] 37)
  have hc2 := (Below.refl (w.alloc (.cells #[.int .i64 S, .slice A n0 c] 31)).heap.size _).alloc (Nat.le_refl _) (.cells #[.int .i64 0, .slice none 0 0] 31)
  have hc3 := (Below.refl ((w.alloc (.cells #[.int .i64 S, .slice A n0 c] 31)).alloc (.cells #[.int .i64 0, .slice none 0 0] 31)).heap.size _).alloc (Nat.le_refl _) (.cells #[.int .i64 0, .int .i64 0] 37)
  have hK2 := Blk.new w 31 #[.int .i64 S, .slice A n0 c]
  have hK4 := Blk.new (w.alloc (.cells #[.int .i64 S, .slice A n0 c] 31)) 31 #[.int .i64 0, .slice none 0 0]
  have hK5 := Blk.new ((w.alloc (.cells #[.int .i64 S, .slice A n0 c] 31)).alloc (.cells #[.int .i64 0, .slice none 0 0] 31)) 37 #[.int .i64 0, .int .i64 0]
  have hz : (w.alloc (.cells #[.int .i64 S, .slice A n0 c] 31)).heap.size = w.heap.size + 1 := by simp
  have hz2 : ((w.alloc (.cells #[.int .i64 S, .slice A n0 c] 31)).alloc (.cells #[.int .i64 0, .slice none 0 0] 31)).heap.size = w.heap.size + 1 + 1 := by simp
  have hz3 : (((w.alloc (.cells #[.int .i64 S, .slice A n0 c] 31)).alloc (.cells #[.int .i64 0, .slice none 0 0] 31)).alloc (.cells #[.int .i64 0, .int .i64 0] 37)).heap.size = w.heap.size + 1 + 1 + 1 := by simp
  rw [hz] at hK4
  rw [hz2] at hK5
  have hk23 := (hK2.below hK2.lt hc2).below (hK2.below hK2.lt hc2).lt hc3
  have hk43 := hK4.below hK4.lt hc3
  have hD3 := H.out.below hb3
  clear hb1 hb2 hc2 hc3 hK2 hK4 hz hz2
  go_enter Try.func12, Try.ntmps12
  generalize hG : ((w.alloc (.cells #[.int .i64 S, .slice A n0 c] 31)).alloc (.cells #[.int .i64 0, .slice none 0 0] 31)).alloc (.cells #[.int .i64 0, .int .i64 0] 37) = W3 at *
  have y20 : W3.cell? ⟨w.heap.size, 0, none⟩ = some (.int .i64 S) := hk23.cell 0
  have y21 : W3.cell? ⟨w.heap.size, 1, none⟩ = some (.slice A n0 c) := hk23.cell 1
  have HK2 := Lib.hid hk23
  have HK4 := Lib.hid hk43
  have HK5 := Lib.hid hK5
  have HB3 := Lib.hid hb3
  have HD3 := Lib.hid hD3
  have hsz3 : w.heap.size + 2 < W3.heap.size := by omega
  have HAF : Hid (∀ y p, A = some ⟨y, p, none⟩ → y < w.heap.size ∨ w.heap.size + 3 ≤ y) := fun y p e => by
    obtain ⟨RA, RC, h, _⟩ := H.out
    obtain ⟨b9, o9, e9, hl9, _⟩ := MIn.top h (by omega)
    rw [e] at e9
    injection e9 with e9
    injection e9 with e9 _ _
    exact .inl (by omega)
  clear hk23 hk43 hK5 hb3 hD3 hz3
  by_cases hno : n < 1 ∨ S < n
  · have hr : recF S v b = (v, 0, 0, 50) := if_pos (by rw [HM.out.1]; omega)
    have hr4 := st_dw HK4.out rfl #[.int .i64 (S : Int), .slice A n0 c] rfl (by simp [Value.oneCell'])
    have hx44 := HK4.out.setRow #[.int .i64 (S : Int), .slice A n0 c]
    have hx54 := blk_setRow_ne HK5.out (show w.heap.size + 1 + 1 ≠ w.heap.size + 1 by omega) #[.int .i64 (S : Int), .slice A n0 c]
    have hr5 := st_pl hx54 rfl #[.int .i64 0, .int .i64 0] rfl (by simp [Value.oneCell'])
    have hx45 := blk_setRow_ne hx44 (show w.heap.size + 1 ≠ w.heap.size + 1 + 1 by omega) #[.int .i64 0, .int .i64 0]
    have hx55 := hx54.setRow #[.int .i64 0, .int .i64 0]
    have t4 := ld_dw hx45 rfl
    have t5 := ld_pl hx55 rfl
    have hD4 := HD3.out.box HK4.out (fun x e => by cases e) (fun x e => by cases e) (fun y o e => by have := HAF.out y o e; omega) #[.int .i64 (S : Int), .slice A n0 c]
    have hD5 := hD4.box hx54 (fun x e => by cases e) (fun x e => by cases e) (fun y o e => by have := HAF.out y o e; omega) #[.int .i64 0, .int .i64 0]
    have HD5 := Lib.hid hD5
    have HB5 := Lib.hid (below_setRowV (below_setRowV HB3.out (show w.heap.size ≤ w.heap.size + 1 by omega) #[.int .i64 (S : Int), .slice A n0 c]) (show w.heap.size ≤ w.heap.size + 1 + 1 by omega) #[.int .i64 0, .int .i64 0])
    have HR := Lib.hid hr
    have tl2 := ld_dw HK2.out rfl
    clear hx44 hx54 hx45 hx55 hD4 hD5 hr hsz3 hcnt0
    subst hG
    rcases (show n = 0 ∨ (1 ≤ n ∧ S < n) by omega) with rfl | ⟨hn1, hSn⟩
    · have i1 : (0 : Int) < 1 := by omega
      clear hno
      go_wp2_with (first
        | (with_reducible refine wpList_load_var w.heap.size _ rfl tl2 ?_)
        | (with_reducible refine wpList_store_var _ _ _ (by with_unfolding_all rfl) (by with_unfolding_all rfl) hr4 ?_)
        | (with_reducible refine wpList_store_var _ _ _ (by with_unfolding_all rfl) (by with_unfolding_all rfl) hr5 ?_))
      refine bodyPost_ret (v := .tuple #[.agg #[.int .i64 (S : Int), .slice A n0 c], .agg #[.int .i64 0, .int .i64 0], .int .i64 50]) ?_ rfl (RdR.of 0 0 50 A c HR.out (by rw [HWN.out]; rfl) (HD5.out.mono fun _ _ h => .inl h) HB5.out)
      rw [results_cell_cell_tmp rfl]
      simp [asAddr, Result.andThen, t4, t5]
    · have i1 : ¬ (n : Int) < 1 := by omega
      have i2 : (S : Int) < (n : Int) := by omega
      clear hno hn1 hSn
      go_wp2_with (first
        | (with_reducible refine wpList_load_var w.heap.size _ rfl tl2 ?_)
        | (with_reducible refine wpList_store_var _ _ _ (by with_unfolding_all rfl) (by with_unfolding_all rfl) hr4 ?_)
        | (with_reducible refine wpList_store_var _ _ _ (by with_unfolding_all rfl) (by with_unfolding_all rfl) hr5 ?_))
      refine bodyPost_ret (v := .tuple #[.agg #[.int .i64 (S : Int), .slice A n0 c], .agg #[.int .i64 0, .int .i64 0], .int .i64 50]) ?_ rfl (RdR.of 0 0 50 A c HR.out (by rw [HWN.out]; rfl) (HD5.out.mono fun _ _ h => .inl h) HB5.out)
      rw [results_cell_cell_tmp rfl]
      simp [asAddr, Result.andThen, t4, t5]
  · obtain ⟨d, o, hdo⟩ : ∃ d o, vat S v n = (d, o) := ⟨_, _, rfl⟩
    obtain ⟨ft, hft⟩ : ∃ ft, ft = decide (v.q.length + n ≤ S) := ⟨_, rfl⟩
    have hbne : b ≠ [] := fun e => by have := HM.out.1; rw [e] at this; simp at this; omega
    have HR : Hid (recF S v b = (rcv ft v b, d, o, 0)) := by
      unfold Hid
      have e1 : recF S v b = (vput S v b, (vat S v b.length).1, (vat S v b.length).2, 0) := if_neg (by rw [HM.out.1]; omega)
      rw [e1, HM.out.1, hdo, hft, ← HM.out.1, rcv_put hbne]
    have HDF : Hid (decide (d = v.P.length + 1) = !ft) := by
      unfold Hid
      unfold vat at hdo
      rw [hft]
      by_cases e : v.q.length + n ≤ S
      · rw [if_pos e] at hdo
        injection hdo with h1 h2
        rw [decide_eq_true e, decide_eq_false (by omega)]
        rfl
      · rw [if_neg e] at hdo
        injection hdo with h1 h2
        rw [decide_eq_false e, decide_eq_true (by omega)]
        rfl
    have i1 : ¬ (n : Int) < 1 := by omega
    have i2 : ¬ (S : Int) < (n : Int) := by omega
    have hn1 : 1 ≤ n := by omega
    have hnS : n ≤ S := by omega
    have HNX := Lib.hid (RNext_c HD3.out HV.out hS (by omega) n (by omega))
    rw [HWN.out, hdo] at HNX
    unfold dwV at HNX
    have HNN := Lib.hid (show (0 : Nat) = 0 from rfl)
    clear hno hdo hft
    subst hG
    go_wp2_with fail
    refine HNX.out.mono ?_
    rintro e W4 ⟨rfl, hb4⟩
    clear HNX
    unfold plV plC
    go_wp2_with fail
    have hb5 := (Below.refl W4.heap.size W4).alloc (Nat.le_refl _) (.cells #[.int .i64 (d : Int), .int .i64 (o : Int)] 37)
    have hx := fun {g : Nat} {T : TypeId} {C : Array Value} (hk : Blk _ g T C) => ((hk.below hk.lt hb4).below (hk.below hk.lt hb4).lt hb5)
    have HK2' := Lib.hid (hx HK2.out)
    have HK4' := Lib.hid (hx HK4.out)
    have HK5' := Lib.hid (hx HK5.out)
    have HK6' := Lib.hid (Blk.new W4 37 #[.int .i64 (d : Int), .int .i64 (o : Int)])
    have HD5 := Lib.hid ((HD3.out.below hb4).below hb5)
    have HB5 := Lib.hid ((HB3.out.trans (hb4.mono HB3.out.size)).trans (hb5.mono (HB3.out.trans (hb4.mono HB3.out.size)).size))
    have hq6 : w.heap.size + 2 < W4.heap.size := by have := hb4.size; omega
    clear hb4 hb5 hx HK2 HK4 HK5 HD3 HB3 y20 y21 hsz3
    generalize W4.alloc (.cells #[.int .i64 (d : Int), .int .i64 (o : Int)] 37) = W5 at *
    generalize W4.heap.size = q6 at *
    rw [← HWN.out] at HK2'
    have HP0 := Lib.hid (show v.P.length ≤ 50000 ∧ v.q.length ≤ 50000 by omega)
    go_loopw [8] (fun iv wr => ∃ (i : Nat) (A' : Option Addr) (c' : Nat), i ≤ n ∧ iv = .int .i64 i ∧ Hid (Blk wr w.heap.size 31 #[.int .i64 (S : Int), .slice A' ((rcv ft v (b.take i)).P.length + 1) c']) ∧ Hid (Dw (fun y => G y ∨ w.heap.size ≤ y) wr (rcv ft v (b.take i)) A' c') ∧ Hid (∀ y p, A' = some ⟨y, p, none⟩ → y < w.heap.size ∨ w.heap.size + 3 ≤ y) ∧ Hid (Below w.heap.size w wr) ∧ Hid (Blk wr (w.heap.size + 1) 31 #[.int .i64 0, .slice none 0 0]) ∧ Hid (Blk wr (w.heap.size + 1 + 1) 37 #[.int .i64 0, .int .i64 0]) ∧ Hid (Blk wr q6 37 #[.int .i64 (d : Int), .int .i64 (o : Int)])) (fun iv _ => n - (intOf iv).toNat)
    case atStart =>
      have e0 : rcv ft v (b.take 0) = v := rcv_nil ft v
      refine ⟨0, A, c, by omega, rfl, ?_, ?_, HAF, HB5, HK4', HK5', HK6'⟩
      · rw [e0]; exact HK2'
      · rw [e0]; exact Lib.hid (HD5.out.mono fun _ _ h => .inl h)
    case round =>
      clear HK2' HD5 HAF HB5 HK4' HK5' HK6'
      obtain ⟨i, A', c', hi, rfl, hk2, hD, hAF, hb, hk4, hk5, hk6⟩ := hrel
      obtain ⟨v', hv'⟩ : ∃ v', v' = rcv ft v (b.take i) := ⟨_, rfl⟩
      rw [← hv'] at hk2 hD
      by_cases hlt : i < n
      · have hin : (i : Int) < n := by omega
        have hrl := rcv_len ft v (b.take i)
        rw [← hv'] at hrl
        have hr2 : (b.take i).length ≤ i := by simp; omega
        have hp0 := HP0.out
        obtain ⟨bB, oB, eB, hlB, zB⟩ := (HRB.out.row.below hb.out).at_ hlt
        have hnB : bB ≠ w.heap.size := by
          obtain ⟨b9, o9, e9, hl9, _⟩ := HRB.out.row.at_ hlt
          rw [eB] at e9
          injection e9 with e9
          injection e9 with e9 _ _
          omega
        subst eB
        obtain ⟨nx, hnx⟩ : ∃ nx, nx = (decide (i = 0) && !ft) := ⟨_, rfl⟩
        have HPUT := Lib.hid (Rput_c (w := wr.drew) (S := S) (hD.out.below (Below.refl _ _).drew) (by omega) (by omega) (gt b i) nx)
        have hVQ : dput v' (gt b i) nx = rcv ft v (b.take (i + 1)) := by
          rw [hv', hnx, take_succ_gt (by rw [HM.out.1]; exact hlt)]
          by_cases e : i = 0
          · subst e
            exact rcv_first ft v (gt b 0)
          · rw [decide_eq_false e, Bool.false_and]
            exact rcv_next ft v _ (fun h => by have h9 := congrArg List.length h; rw [List.length_take, HM.out.1] at h9; simp at h9; omega) _
        have HVQ := Lib.hid hVQ
        have y20 : wr.cell? ⟨w.heap.size, 0, none⟩ = some (.int .i64 S) := hk2.out.cell 0
        have y21 : wr.cell? ⟨w.heap.size, 1, none⟩ = some (.slice A' (v'.P.length + 1) c') := hk2.out.cell 1
        have y60 : wr.cell? ⟨q6, 0, none⟩ = some (.int .i64 d) := hk6.out.cell 0
        obtain ⟨l, hl⟩ : ∃ l, l = v'.P.length := ⟨_, rfl⟩
        rw [← hl] at y21 HPUT hk2
        have hl5 : l ≤ 60000 := by omega
        have HLL := Lib.hid hl
        have HV' := Lib.hid hv'
        have HNXX := Lib.hid hnx
        have hqs2 := hk2.out.lt
        have i4 : (0 : Int) ≤ (i : Int) := by omega
        clear hl hnx hrl hr2 hp0 hVQ hv'
        unfold dwV at HPUT
        have hC00 : wr.drew.cell? ⟨w.heap.size, 0, none⟩ = some (.int .i64 (S : Int)) ∧ wr.drew.cell? ⟨bB, oB + i, none⟩ = some (.int .u8 (gt b i).n) ∧ wr.drew.cell? ⟨q6, 0, none⟩ = some (.int .i64 (d : Int)) := ⟨y20, zB, y60⟩
        have hy0 : wr.drew.cell? ⟨w.heap.size, 0, none⟩ = some (.int .i64 S) := y20
        have hy1 : wr.drew.cell? ⟨w.heap.size, 1, none⟩ = some (.slice A' (l + 1) c') := y21
        have hk2d : Blk wr.drew w.heap.size 31 #[.int .i64 (S : Int), .slice A' (l + 1) c'] := hk2.out
        have hbd : Below wr.heap.size wr wr.drew := (Below.refl _ _).drew
        have hx4 := hk4.out.below hk4.out.lt hbd
        have hx5 := hk5.out.below hk5.out.lt hbd
        have hx6 := hk6.out.below hk6.out.lt hbd
        have hbw := hb.out.trans (hbd.mono hb.out.size)
        have hbB : bB < wr.drew.heap.size ∧ q6 < wr.drew.heap.size := ⟨hlB, hx6.lt⟩
        have hq2d : w.heap.size < wr.drew.heap.size := hqs2
        obtain ⟨V0, hVW⟩ : ∃ V0, V0 = wr.drew := ⟨_, rfl⟩
        have hC0 := hC00
        rw [← hVW] at hC0 hy0 hy1 hk2d hx4 hx5 hx6 hbw hbB hq2d HPUT
        have HX4 := Lib.hid hx4
        have HX5 := Lib.hid hx5
        have HX6 := Lib.hid hx6
        have HBW := Lib.hid hbw
        have HK2D := Lib.hid hk2d
        have HVW := Lib.hid hVW
        have HC00 := Lib.hid hC00
        clear hx4 hx5 hx6 hbw hbd hVW hk2d hC00 y20 y21 y60 hlB hk2 hD hb hk4 hk5 hk6 hqs2
        have hbS := hC0
        by_cases hi0 : i = 0
        · have b1 : ((i : Int) == 0) = true := by rw [hi0]; rfl
          have b1n : (i == 0) = true := by rw [hi0]; rfl
          have hnx2 : nx = !ft := by rw [HNXX.out, hi0]; rfl
          have hvl : v'.P.length = v.P.length := by rw [HV'.out, hi0]; exact congrArg (fun x : Vs => x.P.length) (rcv_nil ft v)
          have b2n : (d == l + 1) = nx := by rw [hnx2, ← HDF.out, HLL.out, hvl]; exact Bool.eq_iff_iff.2 (by simp)
          have b2 : ((d : Int) == (l : Int) + 1) = nx := by rw [← b2n]; exact Bool.eq_iff_iff.2 (by simp; omega)
          clear hi0 hnx2 hvl
          go_wp2_with fail
          refine wp_region_held_drew (S := fun W' => W'.cell? ⟨w.heap.size, 0, none⟩ = some (.int .i64 (S : Int)) ∧ W'.cell? ⟨bB, oB + i, none⟩ = some (.int .u8 (gt b i).n) ∧ W'.cell? ⟨q6, 0, none⟩ = some (.int .i64 (d : Int))) (by kernel_rfl) HC00.out (fun _ => ?_)
          rw [← HVW.out]
          refine wpAnyH_take (i := 1) (oi := { dst := some 32, op := _, type := _, pos := _, after := _, guard := _ }) (v := ?_) rfl (by kernel_rfl) (by kernel_rfl) (by kernel_rfl) (fun _ _ _ h => h) (Or.inl ⟨by rfl, ?_⟩) (by assumption) ?_
          rotate_left
          · intro w' hSw
            try dsimp only at hSw
            go_simp
            try with_reducible rfl
          try simp only [Act.put, List.setIfInBounds_toArray, List.set_cons_zero, List.set_cons_succ]
          refine wpAnyH_take (i := 2) (oi := { dst := some 33, op := _, type := _, pos := _, after := _, guard := _ }) (v := ?_) rfl (by kernel_rfl) (by kernel_rfl) (by kernel_rfl) (fun _ _ _ h => h) (Or.inl ⟨by rfl, ?_⟩) (by assumption) ?_
          rotate_left
          · intro w' hSw
            try dsimp only at hSw
            go_simp
            try with_reducible rfl
          try simp only [Act.put, List.setIfInBounds_toArray, List.set_cons_zero, List.set_cons_succ]
          refine wpAnyH_take (i := 3) (oi := { dst := some 34, op := _, type := _, pos := _, after := _, guard := _ }) (v := ?_) rfl (by kernel_rfl) (by kernel_rfl) (by kernel_rfl) (fun _ _ _ h => h) (Or.inl ⟨by rfl, ?_⟩) (by assumption) ?_
          rotate_left
          · intro w' hSw
            try dsimp only at hSw
            go_simp
            try with_reducible rfl
          try simp only [Act.put, List.setIfInBounds_toArray, List.set_cons_zero, List.set_cons_succ]
          refine wpAnyH_take (i := 4) (oi := { dst := some 35, op := _, type := _, pos := _, after := _, guard := _ }) (v := ?_) rfl (by kernel_rfl) (by kernel_rfl) (by kernel_rfl) (fun _ _ _ h => h) (Or.inl ⟨by rfl, ?_⟩) (by assumption) ?_
          rotate_left
          · intro w' hSw
            try dsimp only at hSw
            go_simp
            try with_reducible rfl
          try simp only [Act.put, List.setIfInBounds_toArray, List.set_cons_zero, List.set_cons_succ]
          refine wpAnyH_take (i := 5) (oi := { dst := some 36, op := _, type := _, pos := _, after := _, guard := _ }) (v := ?_) rfl (by kernel_rfl) (by kernel_rfl) (by kernel_rfl) (fun _ _ _ h => h) (Or.inl ⟨by rfl, ?_⟩) (by assumption) ?_
          rotate_left
          · intro w' hSw
            try dsimp only at hSw
            go_simp
            try with_reducible rfl
          try simp only [Act.put, List.setIfInBounds_toArray, List.set_cons_zero, List.set_cons_succ]
          refine wpAnyH_take (i := 6) (oi := { dst := some 37, op := _, type := _, pos := _, after := _, guard := _ }) (v := ?_) rfl (by kernel_rfl) (by kernel_rfl) (by kernel_rfl) (fun _ _ _ h => h) (Or.inl ⟨by rfl, ?_⟩) (by assumption) ?_
          rotate_left
          · intro w' hSw
            try dsimp only at hSw
            go_simp
            try with_reducible rfl
          try simp only [Act.put, List.setIfInBounds_toArray, List.set_cons_zero, List.set_cons_succ]
          refine wpAnyH_take (i := 7) (oi := { dst := some 38, op := _, type := _, pos := _, after := _, guard := _ }) (v := ?_) rfl (by kernel_rfl) (by kernel_rfl) (by kernel_rfl) (fun _ _ _ h => h) (Or.inl ⟨by rfl, ?_⟩) (by assumption) ?_
          rotate_left
          · intro w' hSw
            try dsimp only at hSw
            go_simp
            try with_reducible rfl
          try simp only [Act.put, List.setIfInBounds_toArray, List.set_cons_zero, List.set_cons_succ]
          refine wpAnyH_take (i := 8) (oi := { dst := some 39, op := _, type := _, pos := _, after := _, guard := _ }) (v := ?_) rfl (by kernel_rfl) (by kernel_rfl) (by kernel_rfl) (fun _ _ _ h => h) (Or.inl ⟨by rfl, ?_⟩) (by assumption) ?_
          rotate_left
          · intro w' hSw
            try dsimp only at hSw
            go_simp
            try with_reducible rfl
          try simp only [Act.put, List.setIfInBounds_toArray, List.set_cons_zero, List.set_cons_succ]
          refine wpAnyH_take (i := 9) (oi := { dst := some 40, op := _, type := _, pos := _, after := _, guard := _ }) (v := ?_) rfl (by kernel_rfl) (by kernel_rfl) (by kernel_rfl) (fun _ _ _ h => h) (Or.inl ⟨by rfl, ?_⟩) (by assumption) ?_
          rotate_left
          · intro w' hSw
            try dsimp only at hSw
            go_simp
            try with_reducible rfl
          try simp only [Act.put, List.setIfInBounds_toArray, List.set_cons_zero, List.set_cons_succ]
          refine wpAnyH_take (i := 10) (oi := { dst := some 41, op := _, type := _, pos := _, after := _, guard := _ }) (v := ?_) rfl (by kernel_rfl) (by kernel_rfl) (by kernel_rfl) (fun _ _ _ h => h) (Or.inl ⟨by rfl, ?_⟩) (by assumption) ?_
          rotate_left
          · intro w' hSw
            try dsimp only at hSw
            go_simp
            try with_reducible rfl
          try simp only [Act.put, List.setIfInBounds_toArray, List.set_cons_zero, List.set_cons_succ]
          refine cut_in (Z := ?Zm) ?f ?z
          case f =>
            intro hREST
            have hRESTo := Lib.hid hREST
            clear hREST
            refine wpAnyH_ready (rs := [0, 11]) (by kernel_rfl) (by simp) ?_
            refine AllReadyH.cons (o := { dst := some 31, op := _, type := _, pos := _, after := _, guard := _ }) rfl (fun K hK => ?_) (AllReadyH.cons (o := { dst := some 42, op := _, type := _, pos := _, after := _, guard := _ }) rfl (fun K hK => ?_) (AllReadyH.nil))
            · skip
              go_simp
              refine hK.out _ _ hbS (fun _ => ?_)
              clear hK K
              try simp only [Act.put, List.setIfInBounds_toArray, List.set_cons_zero, List.set_cons_succ]
              refine wpAnyH_ready (rs := [11]) (by kernel_rfl) (by simp) ?_
              refine AllReadyH.cons (o := { dst := some 42, op := _, type := _, pos := _, after := _, guard := _ }) rfl (fun K hK => ?_) (AllReadyH.nil)
              go_simp
              refine hK.out _ _ hbS (fun _ => ?_)
              clear hK K
              try simp only [Act.put, List.setIfInBounds_toArray, List.set_cons_zero, List.set_cons_succ]
              refine wpAnyH_take (i := 12) (oi := { dst := some 43, op := _, type := _, pos := _, after := _, guard := _ }) (v := ?_) rfl (by kernel_rfl) (by kernel_rfl) (by kernel_rfl) (fun _ _ _ h => h) (Or.inl ⟨by rfl, ?_⟩) (by assumption) ?_
              rotate_left
              · intro w' hSw
                try dsimp only at hSw
                go_simp
                try with_reducible rfl
              try simp only [Act.put, List.setIfInBounds_toArray, List.set_cons_zero, List.set_cons_succ]
              refine wpAnyH_take (i := 13) (oi := { dst := some 44, op := _, type := _, pos := _, after := _, guard := _ }) (v := ?_) rfl (by kernel_rfl) (by kernel_rfl) (by kernel_rfl) (fun _ _ _ h => h) (Or.inl ⟨by rfl, ?_⟩) (by assumption) ?_
              rotate_left
              · intro w' hSw
                try dsimp only at hSw
                go_simp
                try with_reducible rfl
              try simp only [Act.put, List.setIfInBounds_toArray, List.set_cons_zero, List.set_cons_succ]
              refine wpAnyH_take (i := 14) (oi := { dst := some 45, op := _, type := _, pos := _, after := _, guard := _ }) (v := ?_) rfl (by kernel_rfl) (by kernel_rfl) (by kernel_rfl) (fun _ _ _ h => h) (Or.inl ⟨by rfl, ?_⟩) (by assumption) ?_
              rotate_left
              · intro w' hSw
                try dsimp only at hSw
                go_simp
                try with_reducible rfl
              try simp only [Act.put, List.setIfInBounds_toArray, List.set_cons_zero, List.set_cons_succ]
              exact hRESTo.out.out
            · skip
              go_simp
              refine hK.out _ _ hbS (fun _ => ?_)
              clear hK K
              try simp only [Act.put, List.setIfInBounds_toArray, List.set_cons_zero, List.set_cons_succ]
              refine wpAnyH_take (i := 12) (oi := { dst := some 43, op := _, type := _, pos := _, after := _, guard := _ }) (v := ?_) rfl (by kernel_rfl) (by kernel_rfl) (by kernel_rfl) (fun _ _ _ h => h) (Or.inl ⟨by rfl, ?_⟩) (by assumption) ?_
              rotate_left
              · intro w' hSw
                try dsimp only at hSw
                go_simp
                try with_reducible rfl
              try simp only [Act.put, List.setIfInBounds_toArray, List.set_cons_zero, List.set_cons_succ]
              refine wpAnyH_take (i := 13) (oi := { dst := some 44, op := _, type := _, pos := _, after := _, guard := _ }) (v := ?_) rfl (by kernel_rfl) (by kernel_rfl) (by kernel_rfl) (fun _ _ _ h => h) (Or.inl ⟨by rfl, ?_⟩) (by assumption) ?_
              rotate_left
              · intro w' hSw
                try dsimp only at hSw
                go_simp
                try with_reducible rfl
              try simp only [Act.put, List.setIfInBounds_toArray, List.set_cons_zero, List.set_cons_succ]
              refine wpAnyH_take (i := 14) (oi := { dst := some 45, op := _, type := _, pos := _, after := _, guard := _ }) (v := ?_) rfl (by kernel_rfl) (by kernel_rfl) (by kernel_rfl) (fun _ _ _ h => h) (Or.inl ⟨by rfl, ?_⟩) (by assumption) ?_
              rotate_left
              · intro w' hSw
                try dsimp only at hSw
                go_simp
                try with_reducible rfl
              try simp only [Act.put, List.setIfInBounds_toArray, List.set_cons_zero, List.set_cons_succ]
              refine wpAnyH_ready (rs := [0]) (by kernel_rfl) (by simp) ?_
              refine AllReadyH.cons (o := { dst := some 31, op := _, type := _, pos := _, after := _, guard := _ }) rfl (fun K hK => ?_) (AllReadyH.nil)
              go_simp
              refine hK.out _ _ hbS (fun _ => ?_)
              clear hK K
              try simp only [Act.put, List.setIfInBounds_toArray, List.set_cons_zero, List.set_cons_succ]
              exact hRESTo.out.out
          case z =>
            refine wpAnyH_ready (rs := [15]) (by kernel_rfl) (by simp) ?_
            refine AllReadyH.cons (o := { dst := some 46, op := _, type := _, pos := _, after := _, guard := _ }) rfl (fun K hK => ?_) AllReadyH.nil
            go_simp
            go_at_call 27
            refine HPUT.out.mono ?_
            rintro e w7 ⟨A2, c2, rfl, hD7, hF7, hb7⟩
            try go_wp2_with fail
            have hC7 : w7.cell? ⟨w.heap.size, 0, none⟩ = some (.int .i64 (S : Int)) ∧ w7.cell? ⟨bB, oB + i, none⟩ = some (.int .u8 (gt b i).n) ∧ w7.cell? ⟨q6, 0, none⟩ = some (.int .i64 (d : Int)) := ⟨(hb7.cell (p := ⟨w.heap.size, 0, none⟩) hq2d).trans hC0.1, (hb7.cell (p := ⟨bB, oB + i, none⟩) hbB.1).trans hC0.2.1, (hb7.cell (p := ⟨q6, 0, none⟩) hbB.2).trans hC0.2.2⟩
            refine hK.out _ _ ?_ (fun hHeld => ?_)
            · exact hC7
            clear hK K
            try simp only [Act.put, List.setIfInBounds_toArray, List.set_cons_zero, List.set_cons_succ]
            rw [HVQ.out] at hD7 ⊢
            have hk27 := HK2D.out.below HK2D.out.lt hb7
            have hk47 := HX4.out.below HX4.out.lt hb7
            have hk57 := HX5.out.below HX5.out.lt hb7
            have hk67 := HX6.out.below HX6.out.lt hb7
            have hB7 := HBW.out.trans (hb7.mono HBW.out.size)
            have hF7' : ∀ y o, A2 = some ⟨y, o, none⟩ → w.heap.size + 3 ≤ y := fun y o e => by have h1 := hF7 y o e; have h2 := HX6.out.lt; omega
            have hD8 := hD7.box hk27 (fun x e => by cases e) (fun x e => by cases e) (fun y o e => by have := hF7' y o e; omega) #[.int .i64 (S : Int), .slice A2 ((rcv ft v (b.take (i + 1))).P.length + 1) c2]
            have hr8 := st_dw hk27 rfl #[.int .i64 (S : Int), .slice A2 ((rcv ft v (b.take (i + 1))).P.length + 1) c2] rfl (by simp [Value.oneCell'])
            have HK28 := Lib.hid (hk27.setRow #[.int .i64 (S : Int), .slice A2 ((rcv ft v (b.take (i + 1))).P.length + 1) c2])
            have HK48 := Lib.hid (blk_setRow_ne hk47 (show w.heap.size + 1 ≠ w.heap.size by omega) #[.int .i64 (S : Int), .slice A2 ((rcv ft v (b.take (i + 1))).P.length + 1) c2])
            have HK58 := Lib.hid (blk_setRow_ne hk57 (show w.heap.size + 1 + 1 ≠ w.heap.size by omega) #[.int .i64 (S : Int), .slice A2 ((rcv ft v (b.take (i + 1))).P.length + 1) c2])
            have HK68 := Lib.hid (blk_setRow_ne hk67 (show q6 ≠ w.heap.size by omega) #[.int .i64 (S : Int), .slice A2 ((rcv ft v (b.take (i + 1))).P.length + 1) c2])
            have HD8 := Lib.hid (hD8.mono (G' := fun y => G y ∨ w.heap.size ≤ y) (fun y _ h => h.elim id (fun h => .inr (by omega))))
            have HB8 := Lib.hid (below_setRowV hB7 (Nat.le_refl _) #[.int .i64 (S : Int), .slice A2 ((rcv ft v (b.take (i + 1))).P.length + 1) c2])
            have HAF8 : Hid (∀ y p, A2 = some ⟨y, p, none⟩ → y < w.heap.size ∨ w.heap.size + 3 ≤ y) := fun y p e => .inr (hF7' y p e)
            have hC8 : (w7.setRow w.heap.size #[.int .i64 (S : Int), .slice A2 ((rcv ft v (b.take (i + 1))).P.length + 1) c2]).cell? ⟨w.heap.size, 0, none⟩ = some (.int .i64 (S : Int)) ∧ (w7.setRow w.heap.size #[.int .i64 (S : Int), .slice A2 ((rcv ft v (b.take (i + 1))).P.length + 1) c2]).cell? ⟨bB, oB + i, none⟩ = some (.int .u8 (gt b i).n) ∧ (w7.setRow w.heap.size #[.int .i64 (S : Int), .slice A2 ((rcv ft v (b.take (i + 1))).P.length + 1) c2]).cell? ⟨q6, 0, none⟩ = some (.int .i64 (d : Int)) := ⟨HK28.out.cell 0, (cell_setRow_ne hnB _).trans hC7.2.1, (cell_setRow_ne (show q6 ≠ w.heap.size by omega) _).trans hC7.2.2⟩
            refine wpAnyH_ready (rs := [16]) (by kernel_rfl) (by simp) ?_
            refine AllReadyH.cons (o := { dst := none, op := _, type := _, pos := _, after := _, guard := _ }) rfl (fun K hK => ?_) AllReadyH.nil
            refine stepH_store_var w.heap.size _ _ rfl rfl hr8 ?_
            refine hK.out _ _ hC8 (fun _ => ?_)
            clear hK K hr8
            try simp only [Act.put, List.setIfInBounds_toArray, List.set_cons_zero, List.set_cons_succ]
            refine wpAnyH_done (by kernel_rfl) ?_ _
            go_wp2
            go_roundw
            case rel => exact ⟨i + 1, A2, c2, by omega, by go_num, HK28, HD8, HAF8, HB8, HK48, HK58, HK68⟩
            case measure => simp [intOf]; omega
        · have b1 : ((i : Int) == 0) = false := by rw [beq_eq_false_iff_ne]; omega
          have b1n : (i == 0) = false := by rw [beq_eq_false_iff_ne]; exact hi0
          have hnx2 : nx = false := by rw [HNXX.out, decide_eq_false hi0]; rfl
          subst hnx2
          clear hi0
          go_wp2_with fail
          refine wp_region_held_drew (S := fun W' => W'.cell? ⟨w.heap.size, 0, none⟩ = some (.int .i64 (S : Int)) ∧ W'.cell? ⟨bB, oB + i, none⟩ = some (.int .u8 (gt b i).n) ∧ W'.cell? ⟨q6, 0, none⟩ = some (.int .i64 (d : Int))) (by kernel_rfl) HC00.out (fun _ => ?_)
          rw [← HVW.out]
          skip
          skip
          refine wpAnyH_take (i := 1) (oi := { dst := some 32, op := _, type := _, pos := _, after := _, guard := _ }) (v := ?_) rfl (by kernel_rfl) (by kernel_rfl) (by kernel_rfl) (fun _ _ _ h => h) (Or.inl ⟨by rfl, ?_⟩) (by assumption) ?_
          rotate_left
          · intro w' hSw
            try dsimp only at hSw
            go_simp
            try with_reducible rfl
          try simp only [Act.put, List.setIfInBounds_toArray, List.set_cons_zero, List.set_cons_succ]
          refine wpAnyH_take (i := 2) (oi := { dst := some 33, op := _, type := _, pos := _, after := _, guard := _ }) (v := ?_) rfl (by kernel_rfl) (by kernel_rfl) (by kernel_rfl) (fun _ _ _ h => h) (Or.inl ⟨by rfl, ?_⟩) (by assumption) ?_
          rotate_left
          · intro w' hSw
            try dsimp only at hSw
            go_simp
            try with_reducible rfl
          try simp only [Act.put, List.setIfInBounds_toArray, List.set_cons_zero, List.set_cons_succ]
          refine wpAnyH_take (i := 3) (oi := { dst := some 34, op := _, type := _, pos := _, after := _, guard := _ }) (v := ?_) rfl (by kernel_rfl) (by kernel_rfl) (by kernel_rfl) (fun _ _ _ h => h) (Or.inl ⟨by rfl, ?_⟩) (by assumption) ?_
          rotate_left
          · intro w' hSw
            try dsimp only at hSw
            go_simp
            try with_reducible rfl
          try simp only [Act.put, List.setIfInBounds_toArray, List.set_cons_zero, List.set_cons_succ]
          refine wpAnyH_take (i := 4) (oi := { dst := some 35, op := _, type := _, pos := _, after := _, guard := _ }) (v := ?_) rfl (by kernel_rfl) (by kernel_rfl) (by kernel_rfl) (fun _ _ _ h => h) (Or.inl ⟨by rfl, ?_⟩) (by assumption) ?_
          rotate_left
          · intro w' hSw
            try dsimp only at hSw
            go_simp
            try with_reducible rfl
          try simp only [Act.put, List.setIfInBounds_toArray, List.set_cons_zero, List.set_cons_succ]
          refine wpAnyH_take (i := 5) (oi := { dst := some 36, op := _, type := _, pos := _, after := _, guard := _ }) (v := ?_) rfl (by kernel_rfl) (by kernel_rfl) (by kernel_rfl) (fun _ _ _ h => h) (Or.inl ⟨by rfl, ?_⟩) (by assumption) ?_
          rotate_left
          · intro w' hSw
            try dsimp only at hSw
            go_simp
            try with_reducible rfl
          try simp only [Act.put, List.setIfInBounds_toArray, List.set_cons_zero, List.set_cons_succ]
          refine wpAnyH_take (i := 6) (oi := { dst := some 37, op := _, type := _, pos := _, after := _, guard := _ }) (v := ?_) rfl (by kernel_rfl) (by kernel_rfl) (by kernel_rfl) (fun _ _ _ h => h) (Or.inl ⟨by rfl, ?_⟩) (by assumption) ?_
          rotate_left
          · intro w' hSw
            try dsimp only at hSw
            go_simp
            try with_reducible rfl
          try simp only [Act.put, List.setIfInBounds_toArray, List.set_cons_zero, List.set_cons_succ]
          refine wpAnyH_take (i := 7) (oi := { dst := some 38, op := _, type := _, pos := _, after := _, guard := _ }) (v := ?_) rfl (by kernel_rfl) (by kernel_rfl) (by kernel_rfl) (fun _ _ _ h => h) (Or.inl ⟨by rfl, ?_⟩) (by assumption) ?_
          rotate_left
          · intro w' hSw
            try dsimp only at hSw
            go_simp
            try with_reducible rfl
          try simp only [Act.put, List.setIfInBounds_toArray, List.set_cons_zero, List.set_cons_succ]
          refine wpAnyH_take (i := 8) (oi := { dst := some 39, op := _, type := _, pos := _, after := _, guard := _ }) (v := undef) rfl (by kernel_rfl) (by kernel_rfl) (by kernel_rfl) (fun _ _ _ h => h) (Or.inr ⟨by rfl, rfl⟩) (by assumption) ?_
          try simp only [Act.put, List.setIfInBounds_toArray, List.set_cons_zero, List.set_cons_succ]
          refine wpAnyH_take (i := 9) (oi := { dst := some 40, op := _, type := _, pos := _, after := _, guard := _ }) (v := undef) rfl (by kernel_rfl) (by kernel_rfl) (by kernel_rfl) (fun _ _ _ h => h) (Or.inr ⟨by rfl, rfl⟩) (by assumption) ?_
          try simp only [Act.put, List.setIfInBounds_toArray, List.set_cons_zero, List.set_cons_succ]
          refine wpAnyH_take (i := 10) (oi := { dst := some 41, op := _, type := _, pos := _, after := _, guard := _ }) (v := undef) rfl (by kernel_rfl) (by kernel_rfl) (by kernel_rfl) (fun _ _ _ h => h) (Or.inr ⟨by rfl, rfl⟩) (by assumption) ?_
          try simp only [Act.put, List.setIfInBounds_toArray, List.set_cons_zero, List.set_cons_succ]
          refine wpAnyH_take (i := 11) (oi := { dst := some 42, op := _, type := _, pos := _, after := _, guard := _ }) (v := undef) rfl (by kernel_rfl) (by kernel_rfl) (by kernel_rfl) (fun _ _ _ h => h) (Or.inr ⟨by rfl, rfl⟩) (by assumption) ?_
          try simp only [Act.put, List.setIfInBounds_toArray, List.set_cons_zero, List.set_cons_succ]
          refine wpAnyH_take (i := 12) (oi := { dst := some 43, op := _, type := _, pos := _, after := _, guard := _ }) (v := undef) rfl (by kernel_rfl) (by kernel_rfl) (by kernel_rfl) (fun _ _ _ h => h) (Or.inr ⟨by rfl, rfl⟩) (by assumption) ?_
          try simp only [Act.put, List.setIfInBounds_toArray, List.set_cons_zero, List.set_cons_succ]
          refine wpAnyH_take (i := 13) (oi := { dst := some 44, op := _, type := _, pos := _, after := _, guard := _ }) (v := undef) rfl (by kernel_rfl) (by kernel_rfl) (by kernel_rfl) (fun _ _ _ h => h) (Or.inr ⟨by rfl, rfl⟩) (by assumption) ?_
          try simp only [Act.put, List.setIfInBounds_toArray, List.set_cons_zero, List.set_cons_succ]
          refine wpAnyH_take (i := 14) (oi := { dst := some 45, op := _, type := _, pos := _, after := _, guard := _ }) (v := ?_) rfl (by kernel_rfl) (by kernel_rfl) (by kernel_rfl) (fun _ _ _ h => h) (Or.inl ⟨by rfl, ?_⟩) (by assumption) ?_
          rotate_left
          · intro w' hSw
            try dsimp only at hSw
            go_simp
            try with_reducible rfl
          try simp only [Act.put, List.setIfInBounds_toArray, List.set_cons_zero, List.set_cons_succ]
          refine wpAnyH_ready (rs := [0]) (by kernel_rfl) (by simp) ?_
          refine AllReadyH.cons (o := { dst := some 31, op := _, type := _, pos := _, after := _, guard := _ }) rfl (fun K hK => ?_) AllReadyH.nil
          go_simp
          refine hK.out _ _ ?_ (fun hHeld => ?_)
          · exact hbS
          clear hK K
          try simp only [Act.put, List.setIfInBounds_toArray, List.set_cons_zero, List.set_cons_succ]
          skip
          skip
          refine wpAnyH_ready (rs := [15]) (by kernel_rfl) (by simp) ?_
          refine AllReadyH.cons (o := { dst := some 46, op := _, type := _, pos := _, after := _, guard := _ }) rfl (fun K hK => ?_) AllReadyH.nil
          go_simp
          go_at_call 27
          refine HPUT.out.mono ?_
          rintro e w7 ⟨A2, c2, rfl, hD7, hF7, hb7⟩
          try go_wp2_with fail
          have hC7 : w7.cell? ⟨w.heap.size, 0, none⟩ = some (.int .i64 (S : Int)) ∧ w7.cell? ⟨bB, oB + i, none⟩ = some (.int .u8 (gt b i).n) ∧ w7.cell? ⟨q6, 0, none⟩ = some (.int .i64 (d : Int)) := ⟨(hb7.cell (p := ⟨w.heap.size, 0, none⟩) hq2d).trans hC0.1, (hb7.cell (p := ⟨bB, oB + i, none⟩) hbB.1).trans hC0.2.1, (hb7.cell (p := ⟨q6, 0, none⟩) hbB.2).trans hC0.2.2⟩
          refine hK.out _ _ ?_ (fun hHeld => ?_)
          · exact hC7
          clear hK K
          try simp only [Act.put, List.setIfInBounds_toArray, List.set_cons_zero, List.set_cons_succ]
          rw [HVQ.out] at hD7 ⊢
          have hk27 := HK2D.out.below HK2D.out.lt hb7
          have hk47 := HX4.out.below HX4.out.lt hb7
          have hk57 := HX5.out.below HX5.out.lt hb7
          have hk67 := HX6.out.below HX6.out.lt hb7
          have hB7 := HBW.out.trans (hb7.mono HBW.out.size)
          have hF7' : ∀ y o, A2 = some ⟨y, o, none⟩ → w.heap.size + 3 ≤ y := fun y o e => by have h1 := hF7 y o e; have h2 := HX6.out.lt; omega
          have hD8 := hD7.box hk27 (fun x e => by cases e) (fun x e => by cases e) (fun y o e => by have := hF7' y o e; omega) #[.int .i64 (S : Int), .slice A2 ((rcv ft v (b.take (i + 1))).P.length + 1) c2]
          have hr8 := st_dw hk27 rfl #[.int .i64 (S : Int), .slice A2 ((rcv ft v (b.take (i + 1))).P.length + 1) c2] rfl (by simp [Value.oneCell'])
          have HK28 := Lib.hid (hk27.setRow #[.int .i64 (S : Int), .slice A2 ((rcv ft v (b.take (i + 1))).P.length + 1) c2])
          have HK48 := Lib.hid (blk_setRow_ne hk47 (show w.heap.size + 1 ≠ w.heap.size by omega) #[.int .i64 (S : Int), .slice A2 ((rcv ft v (b.take (i + 1))).P.length + 1) c2])
          have HK58 := Lib.hid (blk_setRow_ne hk57 (show w.heap.size + 1 + 1 ≠ w.heap.size by omega) #[.int .i64 (S : Int), .slice A2 ((rcv ft v (b.take (i + 1))).P.length + 1) c2])
          have HK68 := Lib.hid (blk_setRow_ne hk67 (show q6 ≠ w.heap.size by omega) #[.int .i64 (S : Int), .slice A2 ((rcv ft v (b.take (i + 1))).P.length + 1) c2])
          have HD8 := Lib.hid (hD8.mono (G' := fun y => G y ∨ w.heap.size ≤ y) (fun y _ h => h.elim id (fun h => .inr (by omega))))
          have HB8 := Lib.hid (below_setRowV hB7 (Nat.le_refl _) #[.int .i64 (S : Int), .slice A2 ((rcv ft v (b.take (i + 1))).P.length + 1) c2])
          have HAF8 : Hid (∀ y p, A2 = some ⟨y, p, none⟩ → y < w.heap.size ∨ w.heap.size + 3 ≤ y) := fun y p e => .inr (hF7' y p e)
          have hC8 : (w7.setRow w.heap.size #[.int .i64 (S : Int), .slice A2 ((rcv ft v (b.take (i + 1))).P.length + 1) c2]).cell? ⟨w.heap.size, 0, none⟩ = some (.int .i64 (S : Int)) ∧ (w7.setRow w.heap.size #[.int .i64 (S : Int), .slice A2 ((rcv ft v (b.take (i + 1))).P.length + 1) c2]).cell? ⟨bB, oB + i, none⟩ = some (.int .u8 (gt b i).n) ∧ (w7.setRow w.heap.size #[.int .i64 (S : Int), .slice A2 ((rcv ft v (b.take (i + 1))).P.length + 1) c2]).cell? ⟨q6, 0, none⟩ = some (.int .i64 (d : Int)) := ⟨HK28.out.cell 0, (cell_setRow_ne hnB _).trans hC7.2.1, (cell_setRow_ne (show q6 ≠ w.heap.size by omega) _).trans hC7.2.2⟩
          refine wpAnyH_ready (rs := [16]) (by kernel_rfl) (by simp) ?_
          refine AllReadyH.cons (o := { dst := none, op := _, type := _, pos := _, after := _, guard := _ }) rfl (fun K hK => ?_) AllReadyH.nil
          refine stepH_store_var w.heap.size _ _ rfl rfl hr8 ?_
          refine hK.out _ _ hC8 (fun _ => ?_)
          clear hK K hr8
          try simp only [Act.put, List.setIfInBounds_toArray, List.set_cons_zero, List.set_cons_succ]
          refine wpAnyH_done (by kernel_rfl) ?_ _
          go_wp2
          go_roundw
          case rel => exact ⟨i + 1, A2, c2, by omega, by go_num, HK28, HD8, HAF8, HB8, HK48, HK58, HK68⟩
          case measure => simp [intOf]; omega
      · obtain rfl : i = n := by omega
        have hvv : v' = rcv ft v b := by
          rw [hv', List.take_of_length_le (by rw [HM.out.1]; exact Nat.le_refl _)]
        subst hvv
        clear hv'
        have hbd : Below wr.heap.size wr wr.drew := (Below.refl _ _).drew
        have hx2 := hk2.out.below hk2.out.lt hbd
        have hx4 := hk4.out.below hk4.out.lt hbd
        have hx5 := hk5.out.below hk5.out.lt hbd
        have hx6 := hk6.out.below hk6.out.lt hbd
        have hbw := hb.out.trans (hbd.mono hb.out.size)
        have hD1 := hD.out.below hbd
        obtain ⟨V0, hVW⟩ : ∃ V0, V0 = wr.drew := ⟨_, rfl⟩
        have hC00 : wr.drew.cell? ⟨w.heap.size, 0, none⟩ = some (.int .i64 (S : Int)) ∧ wr.drew.cell? ⟨w.heap.size, 1, none⟩ = some (.slice A' ((rcv ft v b).P.length + 1) c') ∧ wr.drew.cell? ⟨q6, 0, none⟩ = some (.int .i64 (d : Int)) ∧ wr.drew.cell? ⟨q6, 1, none⟩ = some (.int .i64 (o : Int)) := ⟨hx2.cell 0, hx2.cell 1, hx6.cell 0, hx6.cell 1⟩
        have hC0 := hC00
        rw [← hVW] at hC0 hx2 hx4 hx5 hx6 hbw hD1
        have hr4 := st_dw hx4 rfl #[.int .i64 (S : Int), .slice A' ((rcv ft v b).P.length + 1) c'] rfl (by simp [Value.oneCell'])
        have hx44 := hx4.setRow #[.int .i64 (S : Int), .slice A' ((rcv ft v b).P.length + 1) c']
        have hx54 := blk_setRow_ne hx5 (show w.heap.size + 1 + 1 ≠ w.heap.size + 1 by omega) #[.int .i64 (S : Int), .slice A' ((rcv ft v b).P.length + 1) c']
        have hr5 := st_pl hx54 rfl #[.int .i64 (d : Int), .int .i64 (o : Int)] rfl (by simp [Value.oneCell'])
        have hx45 := blk_setRow_ne hx44 (show w.heap.size + 1 ≠ w.heap.size + 1 + 1 by omega) #[.int .i64 (d : Int), .int .i64 (o : Int)]
        have hx55 := hx54.setRow #[.int .i64 (d : Int), .int .i64 (o : Int)]
        have t4 := ld_dw hx45 rfl
        have t5 := ld_pl hx55 rfl
        have hD4 := hD1.box hx4 (fun x e => by cases e) (fun x e => by cases e) (fun y o e => by have := hAF.out y o e; omega) #[.int .i64 (S : Int), .slice A' ((rcv ft v b).P.length + 1) c']
        have hD5 := hD4.box hx54 (fun x e => by cases e) (fun x e => by cases e) (fun y o e => by have := hAF.out y o e; omega) #[.int .i64 (d : Int), .int .i64 (o : Int)]
        have hC4 : (V0.setRow (w.heap.size + 1) #[.int .i64 (S : Int), .slice A' ((rcv ft v b).P.length + 1) c']).cell? ⟨w.heap.size, 0, none⟩ = some (.int .i64 (S : Int)) ∧ (V0.setRow (w.heap.size + 1) #[.int .i64 (S : Int), .slice A' ((rcv ft v b).P.length + 1) c']).cell? ⟨w.heap.size, 1, none⟩ = some (.slice A' ((rcv ft v b).P.length + 1) c') ∧ (V0.setRow (w.heap.size + 1) #[.int .i64 (S : Int), .slice A' ((rcv ft v b).P.length + 1) c']).cell? ⟨q6, 0, none⟩ = some (.int .i64 (d : Int)) ∧ (V0.setRow (w.heap.size + 1) #[.int .i64 (S : Int), .slice A' ((rcv ft v b).P.length + 1) c']).cell? ⟨q6, 1, none⟩ = some (.int .i64 (o : Int)) := ⟨(cell_setRow_ne (show w.heap.size ≠ w.heap.size + 1 by omega) _).trans hC0.1, (cell_setRow_ne (show w.heap.size ≠ w.heap.size + 1 by omega) _).trans hC0.2.1, (cell_setRow_ne (show q6 ≠ w.heap.size + 1 by omega) _).trans hC0.2.2.1, (cell_setRow_ne (show q6 ≠ w.heap.size + 1 by omega) _).trans hC0.2.2.2⟩
        have hC5 : ((V0.setRow (w.heap.size + 1) #[.int .i64 (S : Int), .slice A' ((rcv ft v b).P.length + 1) c']).setRow (w.heap.size + 1 + 1) #[.int .i64 (d : Int), .int .i64 (o : Int)]).cell? ⟨w.heap.size, 0, none⟩ = some (.int .i64 (S : Int)) ∧ ((V0.setRow (w.heap.size + 1) #[.int .i64 (S : Int), .slice A' ((rcv ft v b).P.length + 1) c']).setRow (w.heap.size + 1 + 1) #[.int .i64 (d : Int), .int .i64 (o : Int)]).cell? ⟨w.heap.size, 1, none⟩ = some (.slice A' ((rcv ft v b).P.length + 1) c') ∧ ((V0.setRow (w.heap.size + 1) #[.int .i64 (S : Int), .slice A' ((rcv ft v b).P.length + 1) c']).setRow (w.heap.size + 1 + 1) #[.int .i64 (d : Int), .int .i64 (o : Int)]).cell? ⟨q6, 0, none⟩ = some (.int .i64 (d : Int)) ∧ ((V0.setRow (w.heap.size + 1) #[.int .i64 (S : Int), .slice A' ((rcv ft v b).P.length + 1) c']).setRow (w.heap.size + 1 + 1) #[.int .i64 (d : Int), .int .i64 (o : Int)]).cell? ⟨q6, 1, none⟩ = some (.int .i64 (o : Int)) := ⟨(cell_setRow_ne (show w.heap.size ≠ w.heap.size + 1 + 1 by omega) _).trans hC4.1, (cell_setRow_ne (show w.heap.size ≠ w.heap.size + 1 + 1 by omega) _).trans hC4.2.1, (cell_setRow_ne (show q6 ≠ w.heap.size + 1 + 1 by omega) _).trans hC4.2.2.1, (cell_setRow_ne (show q6 ≠ w.heap.size + 1 + 1 by omega) _).trans hC4.2.2.2⟩
        have HD5 := Lib.hid hD5
        have HB5 := Lib.hid (below_setRowV (below_setRowV hbw (show w.heap.size ≤ w.heap.size + 1 by omega) #[.int .i64 (S : Int), .slice A' ((rcv ft v b).P.length + 1) c']) (show w.heap.size ≤ w.heap.size + 1 + 1 by omega) #[.int .i64 (d : Int), .int .i64 (o : Int)])
        have HVW := Lib.hid hVW
        have HC00 := Lib.hid hC00
        clear hbd hx2 hx4 hx5 hx6 hbw hD1 hx44 hx54 hx45 hx55 hD4 hD5 hC00 hVW
        go_wp2_with fail
        refine wp_region_held_drew (S := fun W' => W'.cell? ⟨w.heap.size, 0, none⟩ = some (.int .i64 (S : Int)) ∧ W'.cell? ⟨w.heap.size, 1, none⟩ = some (.slice A' ((rcv ft v b).P.length + 1) c') ∧ W'.cell? ⟨q6, 0, none⟩ = some (.int .i64 (d : Int)) ∧ W'.cell? ⟨q6, 1, none⟩ = some (.int .i64 (o : Int))) (by kernel_rfl) HC00.out (fun _ => ?_)
        rw [← HVW.out]
        refine wpAnyH_take (i := 0) (oi := { dst := some 47, op := _, type := _, pos := _, after := _, guard := _ }) (v := ?_) rfl (by kernel_rfl) (by kernel_rfl) (by kernel_rfl) (fun _ _ _ h => h) (Or.inl ⟨by rfl, ?_⟩) (by assumption) ?_
        rotate_left
        · intro w' hSw
          try dsimp only at hSw
          go_simp
          try with_reducible rfl
        try simp only [Act.put, List.setIfInBounds_toArray, List.set_cons_zero, List.set_cons_succ]
        refine wpAnyH_take (i := 1) (oi := { dst := some 48, op := _, type := _, pos := _, after := _, guard := _ }) (v := ?_) rfl (by kernel_rfl) (by kernel_rfl) (by kernel_rfl) (fun _ _ _ h => h) (Or.inl ⟨by rfl, ?_⟩) (by assumption) ?_
        rotate_left
        · intro w' hSw
          try dsimp only at hSw
          go_simp
          try with_reducible rfl
        try simp only [Act.put, List.setIfInBounds_toArray, List.set_cons_zero, List.set_cons_succ]
        refine wpAnyH_ready (rs := [2]) (by kernel_rfl) (by simp) ?_
        refine AllReadyH.cons (o := { dst := none, op := _, type := _, pos := _, after := _, guard := _ }) rfl (fun K hK => ?_) AllReadyH.nil
        refine stepH_store_var (w.heap.size + 1) _ _ rfl rfl hr4 ?_
        refine hK.out _ _ hC4 (fun _ => ?_)
        clear hK K
        try simp only [Act.put, List.setIfInBounds_toArray, List.set_cons_zero, List.set_cons_succ]
        refine wpAnyH_ready (rs := [3]) (by kernel_rfl) (by simp) ?_
        refine AllReadyH.cons (o := { dst := none, op := _, type := _, pos := _, after := _, guard := _ }) rfl (fun K hK => ?_) AllReadyH.nil
        refine stepH_store_var (w.heap.size + 1 + 1) _ _ rfl rfl hr5 ?_
        refine hK.out _ _ hC5 (fun _ => ?_)
        clear hK K
        try simp only [Act.put, List.setIfInBounds_toArray, List.set_cons_zero, List.set_cons_succ]
        refine wpAnyH_take (i := 4) (oi := { dst := some 6, op := _, type := _, pos := _, after := _, guard := _ }) (v := ?_) rfl (by kernel_rfl) (by kernel_rfl) (by kernel_rfl) (fun _ _ _ h => h) (Or.inl ⟨by rfl, ?_⟩) (by assumption) ?_
        rotate_left
        · intro w' hSw
          try dsimp only at hSw
          go_simp
          try with_reducible rfl
        try simp only [Act.put, List.setIfInBounds_toArray, List.set_cons_zero, List.set_cons_succ]
        refine wpAnyH_done (by kernel_rfl) ?_ _
        go_wp2_with fail
        refine bodyPost_ret (v := .tuple #[.agg #[.int .i64 (S : Int), .slice A' ((rcv ft v b).P.length + 1) c'], .agg #[.int .i64 (d : Int), .int .i64 (o : Int)], .int .i64 0]) ?_ rfl (RdR.of d o 0 A' c' HR.out rfl HD5.out HB5.out)
        rw [results_cell_cell_tmp rfl]
        simp [asAddr, Result.andThen, t4, t5]
end Go.Proofs.Ytkijagodedmipaa
