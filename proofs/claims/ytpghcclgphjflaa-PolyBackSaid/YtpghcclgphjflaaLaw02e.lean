/-
  LAW 02's WALK: PolyBack: it returns true, and writes nothing that was there. No conditions.
-/
import Derived.Test.YtpghcclgphjflaaLaw02c
import Derived.Deep.AppendLies
namespace Go.Proofs.Ytpghcclgphjflaa
open Go.RowKit
set_option linter.unusedVariables false

theorem and31 (x : Int) : ∃ z : Nat, z ≤ 31 ∧ bits .and .i64 x 31 = (z : Int) := by
  have h : (BitVec.ofInt 64 x &&& BitVec.ofInt 64 31).toNat ≤ 31 := by
    rw [BitVec.toNat_and]
    exact Nat.le_trans Nat.and_le_right (by decide)
  refine ⟨_, h, ?_⟩
  show IntKind.i64.wrap ((BitVec.ofInt 64 x &&& BitVec.ofInt 64 31).toNat : Int) = _
  exact IntWalk.i64_in _ (by omega)
/-- the law's places -/
def plX (i : Nat) : F := ofN ((7 * i + 3) % 256)
theorem plX_n (i : Nat) : (plX i).n = (7 * i + 3) % 256 := ofN_n _ (by omega)
theorem plX_nodup (N : Nat) (hN : N ≤ 61) : (mkF plX N).Nodup := by
  rw [List.nodup_iff_pairwise_ne, List.pairwise_iff_getElem]
  intro i j hi hj hij e
  rw [mkF_length] at hi hj
  have h1 : gt (mkF plX N) i = gt (mkF plX N) j := by
    rw [gt_lt (by rw [mkF_length]; exact hi), gt_lt (by rw [mkF_length]; exact hj), e]
  rw [gt_mkF, gt_mkF, if_pos hi, if_pos hj] at h1
  have h2 := congrArg F.n h1
  rw [plX_n, plX_n] at h2
  omega
set_option maxHeartbeats 2000000 in
theorem back_small (A B : Option Addr) (n m ca cb : Nat) (p ys : List F) (x : Int) (w : World) (hp : RowIn w A n ca p) (hy : RowIn w B m cb ys) (hn : n ≤ 30) (hm : m ≤ 30) :
    Calls Try.prog 11 #[.slice A n ca, .int .i64 x, .slice B m cb] w fun e w' => e = .returned (.bool true) ∧ Below w.heap.size w w' := by
  obtain ⟨i0, hi, hz0, hz1, hz2⟩ := info_parts info_u8
  obtain ⟨z, hz31, hz⟩ := and31 x
  have hN61 : n + z ≤ 61 := by omega
  go_enter Try.func11, Try.ntmps11
  go_wp2_with (go_at_call 27; refine (alive02_c _).mono ?_; rintro e w1 ⟨rfl, hb1⟩)
  have hp1 := hp.below hb1
  have hy1 := hy.below hb1
  have hoX := (World.ownsRow_made (e := 5) (size := 1) w1 #[] 0 hb1.size (Nat.zero_le _) rfl).alloc (.cells #[] 5)
  have hoY := World.ownsRow_made (e := 5) (size := 1) (base := w.heap.size) (w1.alloc (.cells #[] 5)) #[] 0 (by have := hb1.size; simp; omega) (Nat.zero_le _) rfl
  have hB1 := (hb1.alloc hb1.size (.cells #[] 5)).alloc (by have := hb1.size; simp; omega) (.cells #[] 5)
  have HOX := Lib.hid hoX
  have HOY := Lib.hid hoY
  clear hoX hoY hp1 hy1 hb1
  go_loopw [7, 8, 35] (fun vx vy i wr => ∃ (k gx cx gy cy : Nat), k ≤ n + z ∧ i = .int .i64 k ∧ vx = .slice (some ⟨gx, 0, none⟩) k cx ∧ vy = .slice (some ⟨gy, 0, none⟩) k cy ∧ gx ≠ gy ∧ wr.ownsRow w.heap.size 5 1 (.slice (some ⟨gx, 0, none⟩) k cx) k (cs (mkF plX k)) ∧
      wr.ownsRow w.heap.size 5 1 (.slice (some ⟨gy, 0, none⟩) k cy) k (cs (mkF (fun i => ev p (plX i)) k)) ∧ Below w.heap.size w wr) (fun _ _ i _ => n + z - (intOf i).toNat)
  case atStart =>
    refine ⟨0, w1.heap.size, 0, w1.heap.size + 1, 0, by omega, rfl, rfl, rfl, by omega, HOX.out, ?_, hB1⟩
    have h := HOY.out
    rw [show (w1.alloc (.cells #[] 5)).heap.size = w1.heap.size + 1 by simp] at h
    exact h
  case round =>
    clear hB1 HOX HOY
    obtain ⟨k, gx, cx, gy, cy, hk, rfl, rfl, rfl, hne, hX, hY, hbel⟩ := hrel
    by_cases hlt : k < n + z
    · have hkn : (k : Int) < (n : Int) + (z : Int) := by omega
      have hpl : (7 * (k : Int) + 3) % 256 = ((plX k).n : Int) := by rw [plX_n]; omega
      have hlX := hX.lt gx rfl
      have hlY := hY.lt gy rfl
      have hbs := hbel.size
      have hp2 := (hp.below hbel).row
      go_wp2_with (at_builtin; refine wpList_append_lies _ rfl (.tmp 42) (.tmp 44) 31 rfl w.heap.size 5 i0 (.int .u8 0) 1 1 Try.underlying31 hi hz0 hz1 hz2 rfl (by decide) (.slice (some ⟨gx, 0, none⟩) k cx) k (cs (mkF plX k)) rfl (hX.alloc _) ⟨wr.heap.size, 0, none⟩ 1 1 [.int .u8 (plX k).n] rfl rfl (one_cell wr _ _) (by intro u hu; simp at hu; subst hu; rfl) (by omega) (by unfold maxLen; omega) (by omega) (by simp; omega) (wr.heap.size + 1) (by simp) ?_; intro gx2 cx2 w2 hX2 hg2 hat2 hlt2)
      have hbel2 : Below w.heap.size w w2 := (hbel.alloc hbs _).grown hg2 (by simp; omega) (fun g e => by cases e; exact hlX.1)
      have hY2 := (hY.alloc (.cells #[.int .u8 (plX k).n] 5)).kept hg2 (.inr (by simp [Value.ownBlock]; exact fun e => hne e.symm))
      have hne2 : gx2 ≠ gy := by
        rcases hat2 with h | h
        · have h' : gx = gx2 := by simpa [Value.ownBlock] using h
          omega
        · omega
      have hp3 := (hp.below hbel2).row
      clear hg2 hat2 hX hY hbel hp2 hlX hbs
      refine (Eval_c A n ca p (plX k) w2 hp3).mono ?_
      rintro e _ ⟨rfl, q, rfl⟩
      have hX3 : (w2.drewN q).ownsRow w.heap.size 5 1 (.slice (some ⟨gx2, 0, none⟩) (k + 1) cx2) (k + 1) (cs (mkF plX k) ++ [.int .u8 (plX k).n]) := hX2
      have hY3 : (w2.drewN q).ownsRow w.heap.size 5 1 (.slice (some ⟨gy, 0, none⟩) k cy) k (cs (mkF (fun i => ev p (plX i)) k)) := hY2
      have hbel3 := below_drewN hbel2 q
      have hlt3 : gx2 < (w2.drewN q).heap.size := hlt2
      clear hX2 hY2 hbel2 hlt2 hp3
      generalize w2.drewN q = w3 at *
      have hbs3 := hbel3.size
      have hlY3 := hY3.lt gy rfl
      go_wp2_with (at_builtin; refine wpList_append_lies _ rfl (.tmp 46) (.tmp 50) 31 rfl w.heap.size 5 i0 (.int .u8 0) 1 1 Try.underlying31 hi hz0 hz1 hz2 rfl (by decide) (.slice (some ⟨gy, 0, none⟩) k cy) k (cs (mkF (fun i => ev p (plX i)) k)) rfl (hY3.alloc _) ⟨w3.heap.size, 0, none⟩ 1 1 [.int .u8 (ev p (plX k)).n] rfl rfl (one_cell w3 _ _) (by intro u hu; simp at hu; subst hu; rfl) (by omega) (by unfold maxLen; omega) (by omega) (by simp; omega) (w3.heap.size + 1) (by simp) ?_; intro gy4 cy4 w4 hY4 hg4 hat4 hlt4)
      have hbel4 : Below w.heap.size w w4 := (hbel3.alloc hbs3 _).grown hg4 (by simp; omega) (fun g e => by cases e; exact hlY3.1)
      have hX4 := (hX3.alloc (.cells #[.int .u8 (ev p (plX k)).n] 5)).kept hg4 (.inr (by simp [Value.ownBlock]; exact hne2))
      have hne4 : gx2 ≠ gy4 := by
        rcases hat4 with h | h
        · have h' : gy = gy4 := by simpa [Value.ownBlock] using h
          omega
        · omega
      clear hg4 hat4 hX3 hY3 hbel3
      go_wp2
      go_roundw
      case rel =>
        refine ⟨k + 1, gx2, cx2, gy4, cy4, by omega, by go_num, rfl, rfl, hne4, ?_, ?_, hbel4⟩
        · show w4.ownsRow _ _ _ _ _ (cs (mkF plX k ++ [plX k]))
          rw [cs_append]
          exact hX4
        · show w4.ownsRow _ _ _ _ _ (cs (mkF (fun i => ev p (plX i)) k ++ [ev p (plX k)]))
          rw [cs_append]
          exact hY4
      case measure => simp [intOf]; omega
    · obtain rfl : k = n + z := by omega
      have hrX := own_in hX
      have hrY := own_in hY
      have hp2 := hp.below hbel
      have hy2 := hy.below hbel
      have hnd := plX_nodup (n + z) hN61
      obtain ⟨a, hta⟩ : ∃ a, tl p n = a := ⟨_, rfl⟩
      have hla := tl_le p n
      have HA := Lib.hid hta
      rw [hta] at hla
      have HND := Lib.hid hnd
      have hcx := hrX.le
      have hcm := hrX.max
      unfold maxLen at hcm
      clear hX hY hp hy hta hnd
      go_wp2_with fail
      refine (Through_ok _ _ (n + z) cx cy _ _ wr hrX.row hrY.row HND.out (by omega)).mono ?_
      rintro e w2 ⟨T, t, tc, TT, rfl, hT, hth, hb2⟩
      have hTT : TT = tr p := hth.unique HND.out ⟨tr_tr p, by
        have h1 := tr_le p
        have h2 := hp2.row.len
        rw [mkF_length]
        omega, fun i hi => by
        rw [mkF_length] at hi
        rw [ev_tr, gt_mkF, gt_mkF, if_pos hi, if_pos hi]⟩
      subst hTT
      have hta : t = a := by
        have h := hT.row.len
        rw [tr_length, hp2.row.len, HA.out] at h
        exact h.symm
      subst hta
      have hX3 := hrX.below hb2
      have hp3 := hp2.below hb2
      have hy3 := hy2.below hb2
      have hB3 := hbel.trans (hb2.mono hbel.size)
      clear hth hb2 hrX hrY hp2 hy2 hbel
      go_wp2_with fail
      have h3 := Trim_c A n ca p w2 hp3.row hp3.le hp3.max (by omega)
      rw [HA.out] at h3
      refine h3.mono ?_
      clear h3
      rintro e w3 ⟨R, rc, rfl, hown3, hb3⟩
      have hR4 := Row.of_own hown3
      have hT4 := hT.row.below hb3
      have hX4 := hX3.below hb3
      have hy4 := hy3.below hb3
      have hB4 := hB3.trans (hb3.mono hB3.size)
      clear hown3 hb3 hT hX3 hp3 hy3 hB3
      go_wp2_with fail
      refine (Same_c T R t tc rc _ _ w3 hT4 hR4 rfl).mono ?_
      rintro e _ ⟨rfl, k3, rfl⟩
      have hX5 := hX4.drewN k3
      have hy5 := hy4.drewN k3
      have hB5 := below_drewN hB4 k3
      clear hT4 hR4 hX4 hy4 hB4
      generalize w3.drewN k3 = w4 at *
      by_cases hmz : m ≤ n + z
      · have hmz2 : (m : Int) ≤ (n : Int) + (z : Int) := by omega
        have hmc : m ≤ cx := by omega
        have hXm : Row w4 (some ⟨gx, 0, none⟩) m ((mkF plX (n + z)).take m) := hX5.row.take hmz
        have hndm : ((mkF plX (n + z)).take m).Nodup := HND.out.sublist (List.take_sublist _ _)
        have HNDM := Lib.hid hndm
        clear hndm
        go_wp2_with fail
        refine (Through_ok _ _ m cx cb _ _ w4 hXm hy5.row HNDM.out (by omega)).mono ?_
        rintro e w5 ⟨Q, qn, qc, QT, rfl, hQ, hqt, hb5⟩
        have hX6 := hX5.row.below hb5
        have hy6 := hy5.row.below hb5
        have hB6 := hB5.trans (hb5.mono hB5.size)
        have HQT := Lib.hid hqt
        have hqle : qn ≤ m := by
          have h := hqt.le
          rw [hQ.row.len] at h
          have h2 := hXm.len
          omega
        have hlX := Lib.hid hXm.len
        clear hqt hb5 hX5 hy5 hB5 hXm
        go_wp2
        go_loopw [83] (fun i wr2 => ∃ j q2 : Nat, j ≤ m ∧ i = .int .i64 j ∧ wr2 = w5.drewN q2) (fun i _ => m - (intOf i).toNat)
        case atStart => exact ⟨0, 0, by omega, rfl, rfl⟩
        case round =>
          obtain ⟨j, q2, hj, rfl, rfl⟩ := hrel
          by_cases hjm : j < m
          · have hX7 := hX6.drewN q2
            have hy7 := hy6.drewN q2
            have hQ7 := hQ.row.drewN q2
            obtain ⟨b1, o1, e1, _, q1⟩ := hX7.at_ (k := j) (by omega)
            injection e1 with e1
            injection e1 with e1 e1'
            subst e1 e1'
            rw [Nat.zero_add] at q1
            obtain ⟨b3, o3, rfl, _, q3⟩ := hy7.at_ hjm
            have hjn : (j : Int) < (n : Int) + (z : Int) := by omega
            have hval : ev QT (gt (mkF plX (n + z)) j) = gt ys j := by
              have h := HQT.out.val j (by rw [hlX.out]; exact hjm)
              rw [gt_take, if_pos hjm] at h
              exact h
            have h7 := Eval_c Q qn qc QT (gt (mkF plX (n + z)) j) _ hQ7
            rw [hval] at h7
            have H7 := Lib.hid h7
            clear h7 hval hX7 hy7 hQ7
            go_wp2_with (go_at_call 36; refine H7.out.mono ?_; rintro e w' ⟨rfl, k7, rfl⟩)
            go_roundw
            case rel => exact ⟨j + 1, _, by omega, by go_num, rfl⟩
            case measure => simp [intOf]; omega
          · obtain rfl : j = m := by omega
            go_wp2
            go_ret
            exact ⟨rfl, below_drewN hB6 q2⟩
      · have hmz2 : (n : Int) + (z : Int) < (m : Int) := by omega
        go_wp2
        go_ret
        exact ⟨rfl, hB5⟩
set_option maxHeartbeats 1000000 in
theorem back_great (A B : Option Addr) (n m ca cb : Nat) (x : Int) (w : World) (h : 30 < n ∨ (n ≤ 30 ∧ 30 < m)) (hn : n ≤ 9223372036854775807) (hm : m ≤ 9223372036854775807) :
    Calls Try.prog 11 #[.slice A n ca, .int .i64 x, .slice B m cb] w fun e w' => e = .returned (.bool true) ∧ Below w.heap.size w w' := by
  rcases h with h | ⟨h, h2⟩
  all_goals
    go_enter Try.func11, Try.ntmps11
    go_wp2_with (go_at_call 27; refine (alive02_c _).mono ?_; rintro e w1 ⟨rfl, hb1⟩)
    go_ret
    exact ⟨rfl, hb1⟩
theorem walk_PolyBack (w : World) (A : Option Addr) (n ca : Nat) (p : List F) (hp : RowIn w A n ca p) (x : Int) (_ : (Lit.int .i64 x).wf = true) (B : Option Addr) (m cb : Nat) (ys : List F) (hy : RowIn w B m cb ys) :
    Calls Try.prog 11 #[.slice A n ca, .int .i64 x, .slice B m cb] w fun e w' => e = .returned (.bool true) ∧ Below w.heap.size w w' := by
  by_cases hn : n ≤ 30
  · by_cases hm : m ≤ 30
    · exact back_small A B n m ca cb p ys x w hp hy hn hm
    · exact back_great A B n m ca cb x w (.inr ⟨hn, by omega⟩) hp.row.max hy.row.max
  · exact back_great A B n m ca cb x w (.inl (by omega)) hp.row.max hy.row.max
end Go.Proofs.Ytpghcclgphjflaa
