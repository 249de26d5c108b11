/-
  THE CONTRACT OF THE DOCUMENT's OWN Through (by Lagrange): at unlike places it is the row with these values. Rows of at most 2^20 bytes.
-/
import Derived.Test.YtbmkcnlcffnjgaaRef4
namespace Go.Proofs.Ytbmkcnlcffnjgaa
open Go.RowKit
set_option maxRecDepth 100000
set_option linter.unusedVariables false

/-- the sum so far: the first k values, and 0 at the other places -/
structure Lag (xs ys : List F) (k : Nat) (T : List F) : Prop where
  tt : tr T = T
  le : T.length ≤ xs.length
  val : ∀ j, j < xs.length → ev T (gt xs j) = if j < k then gt ys j else 0
/-- the product so far: 0 at the first d places, but at the k-th the number below -/
structure OneS (xs : List F) (k d : Nat) (O : List F) (bl : F) : Prop where
  le : O.length ≤ (if d ≤ k then d + 1 else d)
  z : ∀ i, i < d → i ≠ k → ev O (gt xs i) = 0
  v : ev O (gt xs k) = bl
  nz : bl ≠ 0
theorem Lag.start (xs ys : List F) : Lag xs ys 0 [] := ⟨rfl, Nat.zero_le _, fun j hj => by rw [if_neg (by omega)]; rfl⟩
theorem ev_one (x : F) : ev [1] x = 1 := by
  show (1 : F) + x * 0 = 1
  rw [mul_zero, add_zero]
theorem OneS.start (xs : List F) (k : Nat) : OneS xs k 0 [1] 1 := ⟨by rw [if_pos (Nat.zero_le _)]; exact Nat.le_refl _, fun i hi => by omega, ev_one _, one_ne_zero⟩
theorem ev_lin (a x : F) : ev [a, 1] x = a + x := by
  show a + x * (1 + x * 0) = a + x
  rw [mul_zero, add_zero, mul_one]
theorem tr_pmul_le (p q : List F) (a b : Nat) (hp : p.length ≤ a + 1) (hq : q.length ≤ b + 1) : (tr (pmul p q)).length ≤ a + b + 1 := by
  rw [tr_length]
  exact tl_le_of _ _ _ fun i hi => pmul_ge p q a b (fun j hj => gt_ge (by omega)) (fun j hj => gt_ge (by omega)) i (by omega)
theorem OneS.step {xs O : List F} {k d : Nat} {bl : F} (hd : xs.Nodup) (hk : k < xs.length) (hdl : d < xs.length) (hne : d ≠ k) (h : OneS xs k d O bl) : OneS xs k (d + 1) (tr (pmul O [gt xs d, 1])) (bl * (gt xs k + gt xs d)) := by
  have hle := h.le
  refine ⟨?_, fun i hi hik => ?_, ?_, ?_⟩
  · by_cases h1 : d ≤ k
    · rw [if_pos h1] at hle
      have := tr_pmul_le O [gt xs d, 1] d 1 hle (by simp)
      rw [if_pos (by omega)]
      omega
    · rw [if_neg h1] at hle
      rw [if_neg (by omega)]
      have := tr_pmul_le O [gt xs d, 1] (d - 1) 1 (by omega) (by simp)
      omega
  · rw [ev_tr, ev_pmul, ev_lin]
    rcases Nat.lt_or_ge i d with h1 | h1
    · rw [h.z i h1 hik, zero_mul]
    · obtain rfl : i = d := by omega
      rw [add_self, mul_zero]
  · rw [ev_tr, ev_pmul, ev_lin, h.v, add_comm (gt xs d)]
  · intro e
    rcases mul_eq_zero.1 e with h1 | h1
    · exact h.nz h1
    · exact hne (gt_inj hd hdl hk (add_eq_zero.1 h1).symm)
theorem OneS.skip {xs O : List F} {k : Nat} {bl : F} (h : OneS xs k k O bl) : OneS xs k (k + 1) O bl :=
  ⟨by have := h.le; rw [if_pos (Nat.le_refl _)] at this; rw [if_neg (by omega)]; exact this, fun i hi hik => h.z i (by omega) hik, h.v, h.nz⟩
theorem Lag.step {xs ys T O : List F} {k : Nat} {bl : F} (hd : xs.Nodup) (hk : k < xs.length) (h : Lag xs ys k T) (ho : OneS xs k xs.length O bl) :
    Lag xs ys (k + 1) (tr (padd T (tr (pmul O [gt ys k * inv bl])))) := by
  have hle := ho.le
  rw [if_neg (by omega)] at hle
  refine ⟨tr_tr _, ?_, fun j hj => ?_⟩
  · have h1 := tr_le (padd T (tr (pmul O [gt ys k * inv bl])))
    rw [padd_length] at h1
    have h2 := tr_pmul_le O [gt ys k * inv bl] (xs.length - 1) 0 (by omega) (by simp)
    have h3 := h.le
    omega
  · rw [ev_tr, ev_padd, ev_tr, ev_pmul, h.val j hj]
    have e1 : ∀ c x : F, ev [c] x = c := fun c x => by show c + x * 0 = c; rw [mul_zero, add_zero]
    rw [e1]
    by_cases hjk : j = k
    · subst hjk
      rw [if_neg (by omega), zero_add, ho.v, mul_left_comm, mul_inv ho.nz, mul_one, if_pos (by omega)]
    · rw [ho.z j hj hjk, zero_mul, add_zero]
      by_cases h1 : j < k
      · rw [if_pos h1, if_pos (by omega)]
      · rw [if_neg h1, if_neg (by omega)]
theorem Lag.fin {xs ys T : List F} (h : Lag xs ys xs.length T) : IsThrough xs ys T := ⟨h.tt, h.le, fun i hi => by rw [h.val i hi, if_pos hi]⟩

set_option maxHeartbeats 2000000 in
theorem RefThrough_c (A B : Option Addr) (n ca cb : Nat) (xs ys : List F) (w : World) (hx : Row w A n xs) (hy : Row w B n ys) (hd : xs.Nodup) (hn : n ≤ 1048576) :
    Calls Try.prog 51 #[.slice A n ca, .slice B n cb] w fun e w' => ∃ A' t c' T, e = .returned (.slice A' t c') ∧ RowIn w' A' t c' T ∧ IsThrough xs ys T ∧ Below w.heap.size w w' := by
  have hm := hx.max
  have HD := Lib.hid hd
  have HL := Lib.hid hx.len
  clear hd
  go_enter Try.func51, Try.ntmps51
  go_wp2
  go_loopw [5, 6] (fun v i wr => ∃ (k : Nat) (V : Option Addr) (t tc : Nat) (T : List F), k ≤ n ∧ i = .int .i64 k ∧ v = .slice V t tc ∧ RowIn wr V t tc T ∧ Below w.heap.size w wr ∧ Hid (Lag xs ys k T)) (fun _ i _ => n - (intOf i).toNat)
  case atStart => exact ⟨0, _, 0, 0, [], by omega, rfl, rfl, own_in (World.ownsRow_made w #[] 0 (Nat.le_refl _) (Nat.zero_le _) rfl), (Below.refl _ _).alloc (Nat.le_refl _) _, Lag.start xs ys⟩
  case round =>
    obtain ⟨k, V, t, tc, T, hk, rfl, rfl, hT, hbel, hlag⟩ := hrel
    by_cases hlt : k < n
    · have hkn : (k : Int) < n := by omega
      have hlT := hlag.out.le
      rw [HL.out, hT.row.len] at hlT
      go_wp2
      go_loopw [7, 8, 9] (fun o b j wr2 => ∃ (d : Nat) (OA : Option Addr) (on oc : Nat) (O : List F) (bl : F), d ≤ n ∧ j = .int .i64 d ∧ o = .slice OA on oc ∧ b = .int .u8 bl.n ∧ RowIn wr2 OA on oc O ∧ RowIn wr2 V t tc T ∧ Below w.heap.size w wr2 ∧ Hid (OneS xs k d O bl)) (fun _ _ j _ => n - (intOf j).toNat)
      case atStart =>
        refine ⟨0, _, 1, 1, [1], 1, by omega, rfl, rfl, rfl, ⟨row_lit wr [1] 1 _ rfl rfl (by unfold maxLen; simp) _ rfl _, Nat.le_refl _, by unfold maxLen; omega⟩, ⟨hT.row.alloc _, hT.le, hT.max⟩, hbel.alloc hbel.size _, OneS.start xs k⟩
      case round =>
        clear hbel hT
        obtain ⟨d, OA, on, oc, O, bl, hdn, rfl, rfl, rfl, hO, hT, hbel, hone⟩ := hrel
        have hx1 := hx.below hbel
        obtain ⟨b1, o1, e1, l1, q1⟩ := hx1.at_ hlt
        by_cases hdl : d < n
        · obtain ⟨b2, o2, e2, _, q2⟩ := hx1.at_ hdl
          rw [e1] at e2
          injection e2 with e2
          injection e2 with e2 e3
          subst e2 e3 e1
          have hdn2 : (d : Int) < n := by omega
          have hlO := hone.out.le
          rw [hO.row.len] at hlO
          by_cases hdk : d = k
          · have hb1 : ((d : Int) != (k : Int)) = false := by rw [hdk]; simp
            have hone2 : Hid (OneS xs k (d + 1) O bl) := by
              have h := hone.out
              unfold Hid
              rw [hdk] at h ⊢
              exact h.skip
            clear hdk hone
            go_wp2
            go_roundw
            case rel => exact ⟨d + 1, OA, on, oc, O, bl, by omega, by go_num, rfl, rfl, hO, hT, hbel, hone2⟩
            case measure => simp [intOf]; omega
          · have hb1 : ((d : Int) != (k : Int)) = true := by rw [bne_iff_ne]; omega
            have hone2 : Hid (OneS xs k (d + 1) (tr (pmul O [gt xs d, 1])) (bl * (gt xs k + gt xs d))) := hone.out.step HD.out (by rw [HL.out]; exact hlt) (by rw [HL.out]; exact hdl) hdk
            have hon : on ≤ n + 1 := by
              split at hlO <;> omega
            have hbx := bits_xor (gt xs k) (gt xs d)
            clear hdk hone hlO
            have hO5 := hO.row.alloc (.cells #[.int .u8 (gt xs d).n, .int .u8 1] 5)
            have hX5 : Row (wr.alloc (.cells #[.int .u8 (gt xs d).n, .int .u8 1] 5)) (some ⟨wr.heap.size, 0, none⟩) 2 [gt xs d, 1] := row_lit wr [gt xs d, 1] 2 _ rfl rfl (by unfold maxLen; simp) _ rfl _
            have hT5 := hT.row.alloc (.cells #[.int .u8 (gt xs d).n, .int .u8 1] 5)
            have hx5 := hx1.alloc (.cells #[.int .u8 (gt xs d).n, .int .u8 1] 5)
            have hbel5 := hbel.alloc hbel.size (.cells #[.int .u8 (gt xs d).n, .int .u8 1] 5)
            go_wp2_with fail
            refine (RefMul_p OA _ on 2 oc 2 O [gt xs d, 1] _ hO5 hX5 (by omega) (by omega)).mono ?_
            rintro e w5 ⟨O2, on2, oc2, rfl, hownO, hbelO⟩
            clear q1 q2
            have hx6 := hx5.below hbelO
            have hT6 : RowIn w5 V t tc T := ⟨hT5.below hbelO, hT.le, hT.max⟩
            have hO6 := own_in hownO
            have hbel6 := hbel5.trans (hbelO.mono hbel5.size)
            obtain ⟨b3, o3, e3, _, q1⟩ := hx6.at_ hlt
            injection e3 with e3
            injection e3 with e3 e4
            subst e3 e4
            obtain ⟨b4, o4, e4, _, q2⟩ := hx6.at_ hdl
            injection e4 with e4
            injection e4 with e4 e5
            subst e4 e5
            clear hO5 hX5 hT5 hx5 hbel5 hownO hbelO hO hT hx1 hbel
            go_wp2
            go_quiet ((go_at_call 61; first | exact quiet_left (RefMul_c _ _ _) | exact quiet_add_left (RefMul_c _ _ _)))
            go_wp2
            go_roundw
            case rel => exact ⟨d + 1, O2, on2, oc2, _, _, by omega, by go_num, rfl, rfl, ⟨hO6.row.drewN _, hO6.le, hO6.max⟩, ⟨hT6.row.drewN _, hT6.le, hT6.max⟩, below_drewN hbel6 _, hone2⟩
            case measure => simp [intOf]; omega
        · obtain rfl : d = n := by omega
          have hy1 := hy.below hbel
          obtain ⟨b2, o2, rfl, l2, q2⟩ := hy1.at_ hlt
          have hlO := hone.out.le
          rw [hO.row.len, if_neg (by omega)] at hlO
          have hfin : Hid (Lag xs ys (k + 1) (tr (padd T (tr (pmul O [gt ys k * inv bl]))))) := by
            have h := hone.out
            rw [← HL.out] at h
            exact hlag.out.step HD.out (by rw [HL.out]; exact hlt) h
          subst e1
          clear q1
          go_wp2
          go_quiet ((first | (go_at_call 62; first | exact quiet_left (RefInv_c _ _) | exact quiet_add_left (RefInv_c _ _)) | (go_at_call 61; first | exact quiet_left (RefMul_c _ _ _) | exact quiet_add_left (RefMul_c _ _ _))))
          have hO2 : RowIn (wr.drewN nq) OA on oc O := ⟨hO.row.drewN nq, hO.le, hO.max⟩
          have hT2 : RowIn (wr.drewN nq) V t tc T := ⟨hT.row.drewN nq, hT.le, hT.max⟩
          have hbel2 := below_drewN hbel nq
          clear hO hT hbel q2 hx1 hy1
          generalize wr.drewN nq = W at *
          have hO5 := hO2.row.alloc (.cells #[.int .u8 (gt ys k * inv bl).n] 5)
          have hX5 : Row (W.alloc (.cells #[.int .u8 (gt ys k * inv bl).n] 5)) (some ⟨W.heap.size, 0, none⟩) 1 [gt ys k * inv bl] := row_lit W [gt ys k * inv bl] 1 _ rfl rfl (by unfold maxLen; simp) _ rfl _
          have hT5 := hT2.row.alloc (.cells #[.int .u8 (gt ys k * inv bl).n] 5)
          have hbel5 := hbel2.alloc hbel2.size (.cells #[.int .u8 (gt ys k * inv bl).n] 5)
          go_wp2_with fail
          refine (RefMul_p OA _ on 1 oc 1 O [gt ys k * inv bl] _ hO5 hX5 (by omega) (by omega)).mono ?_
          rintro e w5 ⟨O2, on2, oc2, rfl, hownO, hbelO⟩
          have hT6 := hT5.below hbelO
          have hO6 := own_in hownO
          have hbel6 := hbel5.trans (hbelO.mono hbel5.size)
          have hon2 : on2 ≤ d + 1 := by
            have h1 := hO6.row.len
            have h2 := tr_pmul_le O [gt ys k * inv bl] d 0 (by rw [hO2.row.len]; omega) (by simp)
            omega
          go_wp2_with fail
          refine (RefAdd_c V _ t on2 tc oc2 T _ _ hT6 hO6.row (by omega) (by omega)).mono ?_
          rintro e w6 ⟨T2, t2, tc2, rfl, hownT, hbelT⟩
          have hT7 := own_in hownT
          have hbel7 := hbel6.trans (hbelT.mono hbel6.size)
          clear hO5 hX5 hT5 hbel5 hownO hbelO hT6 hO6 hbel6 hownT hbelT hO2 hT2 hbel2
          go_wp2
          go_roundw
          case rel => exact ⟨k + 1, T2, t2, tc2, _, by omega, by go_num, rfl, hT7, hbel7, hfin⟩
          case measure => simp [intOf]; omega
    · obtain rfl : k = n := by omega
      have hfin : Hid (IsThrough xs ys T) := by
        have h := hlag.out
        rw [← HL.out] at h
        exact h.fin
      go_wp2
      go_ret
      exact ⟨V, t, tc, T, rfl, hT, hfin.out, hbel⟩
end Go.Proofs.Ytbmkcnlcffnjgaa
