/-
  LAW 18: LocalSizes. No conditions (but that the table of months lies as the program's text lays it).
-/
import Derived.Test.YtcclhcbjolelcaaDoorLaw18a
import Derived.Deep.RegionHeld3
namespace Go.Proofs.YtcclhcbjolelcaaDoor
open Go.RowKit
set_option maxRecDepth 100000
set_option linter.unusedVariables false
set_option linter.unusedSimpArgs false

theorem hdB_mid (h : Hd) (d t : Nat) : ((hdB h d t).drop 6).take 8 = putL 2048 2 ++ (putL h.m.toNat 2 ++ (putL t 2 ++ putL d 2)) := by
  have e := hdB_flat h d t []
  rw [List.append_nil] at e
  rw [e]
  simp [List.drop_append, List.take_append, putL_length, List.drop_eq_nil_of_le, List.take_of_length_le]
theorem hdB_name (h : Hd) (d t : Nat) : ((hdB h d t).drop 30).take h.nm.length = nmF h.nm := by
  have e := hdB_nm h d t []
  rw [List.append_nil, List.append_nil] at e
  rw [e]
  exact List.take_left (l₁ := nmF h.nm)
theorem nok_pos {l : List UInt8} (h : nokE l = 0) : 1 ≤ l.length := by
  cases hb : nok l with
  | true =>
    have := ((nok_iff l).1 hb).1
    cases l with
    | nil => exact absurd rfl this
    | cons a r => simp
  | false => rw [nokE_no hb] at h; omega
/-- with other sizes and another sum -/
def hdG (h : Hd) (pk sz sm : Nat) : Hd := ⟨h.m, h.t, sm, pk, sz, h.nm⟩
theorem hdX_mid (h : Hd) (pk sz sm : Nat) : ((hdX (hdG h pk sz sm)).drop 6).take 8 = ((hdX h).drop 6).take 8 := by
  unfold hdX
  rw [hdB_mid, hdB_mid]
  rfl
theorem hdX_name (h : Hd) (pk sz sm : Nat) : ((hdX (hdG h pk sz sm)).drop 30).take h.nm.length = nmF h.nm := hdB_name (hdG h pk sz sm) _ _

set_option maxHeartbeats 4000000 in
theorem walk_LocalSizes (w : World) (ht : TabM w) (h : Hd) (hw : HdW h) (hm : h.nm.length ≤ maxLen) (pk : Nat) (hpk : pk < two64) (sz : Nat) (hsz : sz < two64) (sm : Nat) (hsm : sm < 4294967296) :
    Calls Tryd.prog 7 #[hdV h, .int .u64 pk, .int .u64 sz, .int .u32 sm] w fun e w' => e = .returned (.bool true) ∧ Below w.heap.size w w' := by
  have HT := Lib.hid ht
  have HK := Lib.hid (Blk.new w 27 (hdC h))
  have HBL := Lib.hid ((Below.refl w.heap.size w).alloc (Nat.le_refl _) (.cells (hdC h) 27))
  have HAL := Lib.hid alive18_c
  have hsS := S_size h.nm
  by_cases hb : 300 < h.nm.length
  · have ib : (300 : Int) < ((S h.nm).size : Int) := by omega
    clear hw ht hsS hb
    obtain ⟨mm, ⟨y, mo, dd, hh, mi, s⟩, sum, p, z, nm⟩ := h
    unfold hdV hdC at *
    dsimp only at *
    go_enter Tryd.func7, Tryd.ntmps7
    go_wp2_with fail
    refine (HAL.out _ (HT.out.alloc _)).mono ?_
    rintro e W1 ⟨rfl, hb1⟩
    have c10 := ((HK.out.below HK.out.lt hb1).cell 10).trans rfl
    go_wp2
    go_ret
    exact ⟨rfl, HBL.out.trans (hb1.mono HBL.out.size)⟩
  · have ib : ¬ (300 : Int) < ((S h.nm).size : Int) := by omega
    have hgw : HdW (hdG h pk sz sm) := ⟨hw.m, hw.t, hsm, hpk, hsz⟩
    have hck : chkH (hdG h pk sz sm) = chkH h := rfl
    by_cases hK : chkH h = 0
    · have hp := nok_pos (chkH_ok hK).2.2
      have HW := Lib.hid (Write_yes h hw hK _ rfl)
      have HG := Lib.hid (Write_yes (hdG h pk sz sm) hgw (hck.trans hK) _ rfl)
      have hXL : (hdX h).length = 30 + h.nm.length + behN (grt h) := hdB_length h _ _
      have hYL : (hdX (hdG h pk sz sm)).length = 30 + h.nm.length + behN (grt (hdG h pk sz sm)) := hdB_length _ _ _
      have hz := szH_eq (hdG h pk sz sm) (by show h.nm.length ≤ 65535; omega)
      have HS := Lib.hid (SizeL_c (hdG h pk sz sm) (by show h.nm.length ≤ 1000000; omega))
      rw [hz] at HS
      have HMID := Lib.hid (hdX_mid h pk sz sm)
      have HNAM := Lib.hid (hdX_name h pk sz sm)
      have hgr : grt (hdG h pk sz sm) = decide (4294967295 ≤ pk ∨ 4294967295 ≤ sz) := rfl
      rw [show (hdG h pk sz sm).nm = h.nm from rfl] at HS HG
      rw [hgr] at HS HG hYL
      clear hw ht hz hb hK hck hgw hgr
      generalize hdX h = X at *
      generalize hdX (hdG h pk sz sm) = Y at *
      generalize grt h = gh at *
      unfold hdG at *
      obtain ⟨mm, ⟨y, mo, dd, hh, mi, s⟩, sum, p, z, nm⟩ := h
      unfold hdV hdC at *
      dsimp only at *
      rw [← hsS] at hXL hYL hp HNAM HS HG HW
      have hq : (S nm).size ≤ 300 := by omega
      clear hsS hm
      have HXL := Lib.hid hXL
      have HYL := Lib.hid hYL
      clear hXL hYL
      have HP1 := Lib.hid hp
      clear hp
      have w1 : IntKind.i64.wrap ((30 : Int) + ((S nm).size : Int)) = (30 : Int) + ((S nm).size : Int) := IntWalk.i64_in _ (by omega)
      have w2 : IntKind.i64.wrap ((30 : Int) + ((S nm).size : Int) + 20) = (30 : Int) + ((S nm).size : Int) + 20 := IntWalk.i64_in _ (by omega)
      obtain ⟨gr, hgr⟩ : ∃ gr, gr = decide (4294967295 ≤ pk ∨ 4294967295 ≤ sz) := ⟨_, rfl⟩
      rw [← hgr] at HS HG HYL
      have HGR := Lib.hid hgr
      clear hgr
      go_enter Tryd.func7, Tryd.ntmps7
      go_wp2_with fail
      refine (HAL.out _ (HT.out.alloc _)).mono ?_
      rintro e W1 ⟨rfl, hb1⟩
      have K1 := Lib.hid (HK.out.below HK.out.lt hb1)
      have B1 := Lib.hid (HBL.out.trans (hb1.mono HBL.out.size))
      clear hb1 HK HBL HAL
      have c10 := (K1.out.cell 10).trans rfl
      have q1 := ld_hd K1.out rfl
      go_wp2_with (with_reducible refine wpList_load_var _ _ (by with_unfolding_all rfl) q1 ?_)
      refine (HW.out _ (HT.out.below B1.out)).mono ?_
      rintro e W2 ⟨g2, d2, rfl, hown2, hb2⟩
      have K2 := Lib.hid (K1.out.below K1.out.lt hb2)
      have B2 := Lib.hid (B1.out.trans (hb2.mono B1.out.size))
      have I2 := Lib.hid (own_in hown2)
      have cap2 := (own_cap hown2).1
      clear hb2 K1 B1 hown2 c10 q1
      have q2 := ld_hd K2.out rfl
      have HA3 := Lib.hid ((Below.refl W2.heap.size W2).alloc (Nat.le_refl _) (.cells #[.int .i64 mm, .int .i64 y, .int .i64 mo, .int .i64 dd, .int .i64 hh, .int .i64 mi, .int .i64 s, .int .u32 sm, .int .u64 pk, .int .u64 sz, .string (S nm)] 27))
      have K3 := Lib.hid (K2.out.below K2.out.lt HA3.out)
      have J3 := Lib.hid (Blk.new W2 27 #[.int .i64 mm, .int .i64 y, .int .i64 mo, .int .i64 dd, .int .i64 hh, .int .i64 mi, .int .i64 s, .int .u32 sm, .int .u64 pk, .int .u64 sz, .string (S nm)])
      have B3 := Lib.hid (B2.out.trans (HA3.out.mono B2.out.size))
      have I3 := Lib.hid (I2.out.below HA3.out)
      clear HA3
      go_wp2_with (with_reducible refine wpList_load_var _ _ (by with_unfolding_all rfl) q2 ?_)
      generalize W2.alloc (.cells #[.int .i64 mm, .int .i64 y, .int .i64 mo, .int .i64 dd, .int .i64 hh, .int .i64 mi, .int .i64 s, .int .u32 sm, .int .u64 pk, .int .u64 sz, .string (S nm)] 27) = W3 at *
      generalize W2.heap.size = g3 at *
      clear q2 K2 B2 I2
      refine (HG.out _ (HT.out.below B3.out)).mono ?_
      rintro e W4 ⟨g4, d4, rfl, hown4, hb4⟩
      have K4 := Lib.hid (K3.out.below K3.out.lt hb4)
      have J4 := Lib.hid (J3.out.below J3.out.lt hb4)
      have B4 := Lib.hid (B3.out.trans (hb4.mono B3.out.size))
      have I4 := Lib.hid (I3.out.below hb4)
      have L4 := Lib.hid (own_in hown4)
      have cap4 := (own_cap hown4).1
      clear hb4 K3 B3 I3 J3 hown4
      have n30 : 30 + (S nm).size + behN gh = 30 + (S nm).size + behN gh := rfl
      obtain ⟨N2, hN2, hN2b⟩ : ∃ N2, N2 = 30 + (S nm).size + behN gh ∧ 31 ≤ N2 := ⟨_, rfl, by have := HP1.out; omega⟩
      obtain ⟨N4, hN4, hN4b, hN4c, hN4d⟩ : ∃ N4, N4 = 30 + (S nm).size + behN gr ∧ 31 ≤ N4 ∧ 30 + (S nm).size ≤ N4 ∧ N4 ≤ 1000000 := ⟨_, rfl, by have := HP1.out; omega, by omega, by unfold behN; split <;> omega⟩
      rw [← hN2] at I4 cap2
      rw [← hN4] at L4 cap4 HS
      rw [← hN2, ← hN4]
      have HN4 := Lib.hid hN4
      clear hN2 hN4 n30
      have sl2 := (I4.out.slice (a := 6) (M := 14) (by omega) (by omega)).2 (by omega)
      have sl4 := (L4.out.slice (a := 6) (M := 14) (by omega) (by omega)).2 (by omega)
      have sn4 := (L4.out.slice (a := 30) (M := 30 + (S nm).size) (by omega) (by omega)).2 (by omega)
      rw [show 30 + (S nm).size - 30 = (S nm).size by omega, HNAM.out] at sn4
      rw [show 14 - 6 = 8 from rfl, HMID.out] at sl4
      rw [show 14 - 6 = 8 from rfl] at sl2
      have hs2 : Row W4 (some ⟨g2, 6, none⟩) 8 ((X.drop 6).take 8) := by simpa [Addr.add] using sl2.row
      have hs4 : Row W4 (some ⟨g4, 6, none⟩) 8 ((X.drop 6).take 8) := by simpa [Addr.add] using sl4.row
      have hn4 : Row W4 (some ⟨g4, 30, none⟩) (S nm).size (nmF nm) := by simpa [Addr.add] using sn4.row
      have HSA := Lib.hid hs2
      have HSB := Lib.hid hs4
      have HSN := Lib.hid hn4
      clear sl2 sl4 sn4 hs2 hs4 hn4
      have HCV : Hid (∀ W, Below W4.heap.size W4 W → Sem.run Tryd.prog (convert 29 9 (.slice (some ⟨g4, 30, none⟩) (S nm).size (d4 - 30))) W = .ok (.string (S nm)) W) := fun W hb => by
        have := run_row_string (d4 - 30) (HSN.out.below hb)
        rw [strB_S] at this
        exact this
      have HSM : Hid (∀ W c1 c2, Below W4.heap.size W4 W → Calls Tryd.prog 12 #[.slice (some ⟨g2, 6, none⟩) 8 c1, .slice (some ⟨g4, 6, none⟩) 8 c2] W fun e w' => e = .returned (.bool true) ∧ ∃ q, w' = W.drewN q) := fun W c1 c2 hb => SameT_c _ _ _ _ _ _ _ _ (HSA.out.below hb) (HSB.out.below hb)
      obtain ⟨e0, e1, e2, e3, e4, e5, e6, e7, e8, e9, e10⟩ := elv J4.out
      have c10 := (K4.out.cell 10).trans rfl
      have lg3 := J4.out.lt
      have lg0 := K4.out.lt
      have kb0 := Below.refl W4.heap.size W4
      have kc0 := HCV.out W4 kb0
      have i14 : (14 : Int) ≤ (d2 : Int) := by omega
      have i15 : (14 : Int) ≤ (d4 : Int) := by omega
      have i16 : (30 : Int) + ((S nm).size : Int) ≤ (d4 : Int) := by omega
      have i17 : (30 : Int) ≤ (30 : Int) + ((S nm).size : Int) := by omega
      have i18 : ((30 : Int) + ((S nm).size : Int)).toNat - 30 = (S nm).size := by omega
      have i19 : ¬ d4 = 30 := by omega
      have i20 : ¬ d2 = 6 := by omega
      have i21 : ¬ d4 = 6 := by omega
      have i22 : (30 : Int) ≤ max ((30 : Int) + ((S nm).size : Int)) 0 := by omega
      have hL : ((N4 : Nat) : Int) = if gr then 30 + ((S nm).size : Int) + 20 else 30 + ((S nm).size : Int) := by
        have := HN4.out
        unfold behN at this
        cases gr <;> simp at this ⊢ <;> omega
      have hG1 : gr = true → (4294967295 : Int) ≤ (pk : Int) ∨ (4294967295 : Int) ≤ (sz : Int) := fun e => by
        have := HGR.out
        rw [e] at this
        have := of_decide_eq_true this.symm
        omega
      have hG0 : gr = false → ¬ (4294967295 : Int) ≤ (pk : Int) ∧ ¬ (4294967295 : Int) ≤ (sz : Int) := fun e => by
        have := HGR.out
        rw [e] at this
        have := of_decide_eq_false this.symm
        omega
      have kd0 : Below W4.heap.size W4 W4.drew := below_drewL kb0
      have kcd := HCV.out W4.drew kd0
      cases gr
      case false =>
        obtain ⟨j1', j2'⟩ := hG0 rfl
        have j1 : decide ((4294967295 : Int) ≤ (pk : Int)) = false := decide_eq_false j1'
        have j2 : decide ((4294967295 : Int) ≤ (sz : Int)) = false := decide_eq_false j2'
        clear j1' j2'
        have hN : N4 = 30 + (S nm).size := by simp at hL; omega
        clear hL hG1 hG0
        subst hN
        go_wp2_with fail
        go_region_held3 (fun W' => W'.cell? ⟨g3, 0, none⟩ = some (.int .i64 mm) ∧ W'.cell? ⟨g3, 1, none⟩ = some (.int .i64 y) ∧ W'.cell? ⟨g3, 2, none⟩ = some (.int .i64 mo) ∧ W'.cell? ⟨g3, 3, none⟩ = some (.int .i64 dd) ∧ W'.cell? ⟨g3, 4, none⟩ = some (.int .i64 hh) ∧ W'.cell? ⟨g3, 5, none⟩ = some (.int .i64 mi) ∧ W'.cell? ⟨g3, 6, none⟩ = some (.int .i64 s) ∧ W'.cell? ⟨g3, 7, none⟩ = some (.int .u32 sm) ∧ W'.cell? ⟨g3, 8, none⟩ = some (.int .u64 pk) ∧ W'.cell? ⟨g3, 9, none⟩ = some (.int .u64 sz) ∧ W'.cell? ⟨g3, 10, none⟩ = some (.string (S nm)) ∧ W'.cell? ⟨w.heap.size, 10, none⟩ = some (.string (S nm)) ∧ Below W4.heap.size W4 W' ∧ Sem.run Tryd.prog (convert 29 9 (.slice (some ⟨g4, 30, none⟩) (S nm).size (d4 - 30))) W' = .ok (.string (S nm)) W') (go_keep)
          ((first
            | (go_at_call 13
               refine (HS.out _).mono ?_
               rintro e W5 ⟨rfl, hb5⟩
               have kb9 : Below W4.heap.size W4 W5 := kd0.trans (hb5.mono kd0.size)
               have kc9 := HCV.out W5 kb9
               have ee0 := (kb9.cell (p := ⟨g3, 0, none⟩) (by exact lg3)).trans e0
               have ee1 := (kb9.cell (p := ⟨g3, 1, none⟩) (by exact lg3)).trans e1
               have ee2 := (kb9.cell (p := ⟨g3, 2, none⟩) (by exact lg3)).trans e2
               have ee3 := (kb9.cell (p := ⟨g3, 3, none⟩) (by exact lg3)).trans e3
               have ee4 := (kb9.cell (p := ⟨g3, 4, none⟩) (by exact lg3)).trans e4
               have ee5 := (kb9.cell (p := ⟨g3, 5, none⟩) (by exact lg3)).trans e5
               have ee6 := (kb9.cell (p := ⟨g3, 6, none⟩) (by exact lg3)).trans e6
               have ee7 := (kb9.cell (p := ⟨g3, 7, none⟩) (by exact lg3)).trans e7
               have ee8 := (kb9.cell (p := ⟨g3, 8, none⟩) (by exact lg3)).trans e8
               have ee9 := (kb9.cell (p := ⟨g3, 9, none⟩) (by exact lg3)).trans e9
               have ee10 := (kb9.cell (p := ⟨g3, 10, none⟩) (by exact lg3)).trans e10
               have ee11 := (kb9.cell (p := ⟨w.heap.size, 10, none⟩) (by exact lg0)).trans c10)
            | (go_at_call 12
               refine (HSM.out _ _ _ (by first | exact kb9 | exact below_drewN kb9 1)).mono ?_
               rintro e _ ⟨rfl, q, rfl⟩
               have kb10 := below_drewN kb9 q
               have kc10 := HCV.out _ kb10)))
        go_wp2
        go_ret
        exact ⟨rfl, B4.out.trans (kb10.mono B4.out.size)⟩
      case true =>
        have bN : ((N4 : Int) == 30 + ((S nm).size : Int) + 20) = true := by rw [beq_iff_eq]; simpa using hL
        by_cases j1 : (4294967295 : Int) ≤ (pk : Int)
        · clear hL hG1 hG0
          go_wp2_with fail
          go_region_held3 (fun W' => W'.cell? ⟨g3, 0, none⟩ = some (.int .i64 mm) ∧ W'.cell? ⟨g3, 1, none⟩ = some (.int .i64 y) ∧ W'.cell? ⟨g3, 2, none⟩ = some (.int .i64 mo) ∧ W'.cell? ⟨g3, 3, none⟩ = some (.int .i64 dd) ∧ W'.cell? ⟨g3, 4, none⟩ = some (.int .i64 hh) ∧ W'.cell? ⟨g3, 5, none⟩ = some (.int .i64 mi) ∧ W'.cell? ⟨g3, 6, none⟩ = some (.int .i64 s) ∧ W'.cell? ⟨g3, 7, none⟩ = some (.int .u32 sm) ∧ W'.cell? ⟨g3, 8, none⟩ = some (.int .u64 pk) ∧ W'.cell? ⟨g3, 9, none⟩ = some (.int .u64 sz) ∧ W'.cell? ⟨g3, 10, none⟩ = some (.string (S nm)) ∧ W'.cell? ⟨w.heap.size, 10, none⟩ = some (.string (S nm)) ∧ Below W4.heap.size W4 W' ∧ Sem.run Tryd.prog (convert 29 9 (.slice (some ⟨g4, 30, none⟩) (S nm).size (d4 - 30))) W' = .ok (.string (S nm)) W') (go_keep)
            ((first
              | (go_at_call 13
                 refine (HS.out _).mono ?_
                 rintro e W5 ⟨rfl, hb5⟩
                 have kb9 : Below W4.heap.size W4 W5 := kd0.trans (hb5.mono kd0.size)
                 have kc9 := HCV.out W5 kb9
                 have ee0 := (kb9.cell (p := ⟨g3, 0, none⟩) (by exact lg3)).trans e0
                 have ee1 := (kb9.cell (p := ⟨g3, 1, none⟩) (by exact lg3)).trans e1
                 have ee2 := (kb9.cell (p := ⟨g3, 2, none⟩) (by exact lg3)).trans e2
                 have ee3 := (kb9.cell (p := ⟨g3, 3, none⟩) (by exact lg3)).trans e3
                 have ee4 := (kb9.cell (p := ⟨g3, 4, none⟩) (by exact lg3)).trans e4
                 have ee5 := (kb9.cell (p := ⟨g3, 5, none⟩) (by exact lg3)).trans e5
                 have ee6 := (kb9.cell (p := ⟨g3, 6, none⟩) (by exact lg3)).trans e6
                 have ee7 := (kb9.cell (p := ⟨g3, 7, none⟩) (by exact lg3)).trans e7
                 have ee8 := (kb9.cell (p := ⟨g3, 8, none⟩) (by exact lg3)).trans e8
                 have ee9 := (kb9.cell (p := ⟨g3, 9, none⟩) (by exact lg3)).trans e9
                 have ee10 := (kb9.cell (p := ⟨g3, 10, none⟩) (by exact lg3)).trans e10
                 have ee11 := (kb9.cell (p := ⟨w.heap.size, 10, none⟩) (by exact lg0)).trans c10)
              | (go_at_call 12
                 refine (HSM.out _ _ _ (by first | exact kb9 | exact below_drewN kb9 1)).mono ?_
                 rintro e _ ⟨rfl, q, rfl⟩
                 have kb10 := below_drewN kb9 q
                 have kc10 := HCV.out _ kb10)))
          go_wp2
          go_ret
          exact ⟨rfl, B4.out.trans (kb10.mono B4.out.size)⟩
        · have j2 : (4294967295 : Int) ≤ (sz : Int) := (hG1 rfl).resolve_left j1
          clear hL hG1 hG0
          go_wp2_with fail
          go_region_held3 (fun W' => W'.cell? ⟨g3, 0, none⟩ = some (.int .i64 mm) ∧ W'.cell? ⟨g3, 1, none⟩ = some (.int .i64 y) ∧ W'.cell? ⟨g3, 2, none⟩ = some (.int .i64 mo) ∧ W'.cell? ⟨g3, 3, none⟩ = some (.int .i64 dd) ∧ W'.cell? ⟨g3, 4, none⟩ = some (.int .i64 hh) ∧ W'.cell? ⟨g3, 5, none⟩ = some (.int .i64 mi) ∧ W'.cell? ⟨g3, 6, none⟩ = some (.int .i64 s) ∧ W'.cell? ⟨g3, 7, none⟩ = some (.int .u32 sm) ∧ W'.cell? ⟨g3, 8, none⟩ = some (.int .u64 pk) ∧ W'.cell? ⟨g3, 9, none⟩ = some (.int .u64 sz) ∧ W'.cell? ⟨g3, 10, none⟩ = some (.string (S nm)) ∧ W'.cell? ⟨w.heap.size, 10, none⟩ = some (.string (S nm)) ∧ Below W4.heap.size W4 W' ∧ Sem.run Tryd.prog (convert 29 9 (.slice (some ⟨g4, 30, none⟩) (S nm).size (d4 - 30))) W' = .ok (.string (S nm)) W') (go_keep)
            ((first
              | (go_at_call 13
                 refine (HS.out _).mono ?_
                 rintro e W5 ⟨rfl, hb5⟩
                 have kb9 : Below W4.heap.size W4 W5 := kd0.trans (hb5.mono kd0.size)
                 have kc9 := HCV.out W5 kb9
                 have ee0 := (kb9.cell (p := ⟨g3, 0, none⟩) (by exact lg3)).trans e0
                 have ee1 := (kb9.cell (p := ⟨g3, 1, none⟩) (by exact lg3)).trans e1
                 have ee2 := (kb9.cell (p := ⟨g3, 2, none⟩) (by exact lg3)).trans e2
                 have ee3 := (kb9.cell (p := ⟨g3, 3, none⟩) (by exact lg3)).trans e3
                 have ee4 := (kb9.cell (p := ⟨g3, 4, none⟩) (by exact lg3)).trans e4
                 have ee5 := (kb9.cell (p := ⟨g3, 5, none⟩) (by exact lg3)).trans e5
                 have ee6 := (kb9.cell (p := ⟨g3, 6, none⟩) (by exact lg3)).trans e6
                 have ee7 := (kb9.cell (p := ⟨g3, 7, none⟩) (by exact lg3)).trans e7
                 have ee8 := (kb9.cell (p := ⟨g3, 8, none⟩) (by exact lg3)).trans e8
                 have ee9 := (kb9.cell (p := ⟨g3, 9, none⟩) (by exact lg3)).trans e9
                 have ee10 := (kb9.cell (p := ⟨g3, 10, none⟩) (by exact lg3)).trans e10
                 have ee11 := (kb9.cell (p := ⟨w.heap.size, 10, none⟩) (by exact lg0)).trans c10)
              | (go_at_call 12
                 refine (HSM.out _ _ _ (by first | exact kb9 | exact below_drewN kb9 1)).mono ?_
                 rintro e _ ⟨rfl, q, rfl⟩
                 have kb10 := below_drewN kb9 q
                 have kc10 := HCV.out _ kb10)))
          go_wp2
          go_ret
          exact ⟨rfl, B4.out.trans (kb10.mono B4.out.size)⟩
    · have hKg : chkH (hdG h pk sz sm) ≠ 0 := fun e => hK e
      have HW := Lib.hid (Write_not h hw (by omega) _ rfl hK)
      have HG := Lib.hid (Write_not (hdG h pk sz sm) hgw (by show h.nm.length ≤ 1000000; omega) _ rfl hKg)
      rw [show chkH (hdG h pk sz sm) = chkH h from rfl] at HG
      have bK : (chkH h != 0) = true := by rw [bne_iff_ne]; exact hK
      clear hw ht hb hK hck hgw hKg hpk hsz hsm
      generalize chkH h = K at *
      unfold hdG at *
      obtain ⟨mm, ⟨y, mo, dd, hh, mi, s⟩, sum, p, z, nm⟩ := h
      unfold hdV hdC at *
      dsimp only at *
      clear hsS hm
      go_enter Tryd.func7, Tryd.ntmps7
      go_wp2_with fail
      refine (HAL.out _ (HT.out.alloc _)).mono ?_
      rintro e W1 ⟨rfl, hb1⟩
      have K1 := Lib.hid (HK.out.below HK.out.lt hb1)
      have B1 := Lib.hid (HBL.out.trans (hb1.mono HBL.out.size))
      clear hb1 HK HBL HAL
      have c10 := (K1.out.cell 10).trans rfl
      have q1 := ld_hd K1.out rfl
      go_wp2_with (with_reducible refine wpList_load_var _ _ (by with_unfolding_all rfl) q1 ?_)
      refine (HW.out _ (HT.out.below B1.out)).mono ?_
      rintro e W2 ⟨A2, d2, rfl, _, hb2⟩
      have K2 := Lib.hid (K1.out.below K1.out.lt hb2)
      have B2 := Lib.hid (B1.out.trans (hb2.mono B1.out.size))
      clear hb2 K1 B1 c10 q1
      have q2 := ld_hd K2.out rfl
      have HA3 := Lib.hid ((Below.refl W2.heap.size W2).alloc (Nat.le_refl _) (.cells #[.int .i64 mm, .int .i64 y, .int .i64 mo, .int .i64 dd, .int .i64 hh, .int .i64 mi, .int .i64 s, .int .u32 sm, .int .u64 pk, .int .u64 sz, .string (S nm)] 27))
      have B3 := Lib.hid (B2.out.trans (HA3.out.mono B2.out.size))
      go_wp2_with (with_reducible refine wpList_load_var _ _ (by with_unfolding_all rfl) q2 ?_)
      refine (HG.out _ (HT.out.below B3.out)).mono ?_
      rintro e W4 ⟨A4, d4, rfl, _, hb4⟩
      go_wp2
      go_ret
      exact ⟨rfl, B3.out.trans (hb4.mono B3.out.size)⟩
end Go.Proofs.YtcclhcbjolelcaaDoor
