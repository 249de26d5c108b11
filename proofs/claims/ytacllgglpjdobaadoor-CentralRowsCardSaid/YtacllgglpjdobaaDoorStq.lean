/-
  STAMPS: Pack, Unpack. No conditions (but that the table lies as the program's text lays it).
-/
import Derived.Test.YtacllgglpjdobaaDoorStn
namespace Go.Proofs.YtacllgglpjdobaaDoor
open Go.RowKit
set_option maxRecDepth 100000
set_option linter.unusedVariables false

theorem or64S (x y k : Nat) (hx : x < 2 ^ k) (hxy : 2 ^ k * y + x < 9223372036854775808) : bits .or .i64 ((2 ^ k * y : Nat) : Int) (x : Int) = ((2 ^ k * y + x : Nat) : Int) := by
  have ofI : ∀ c : Nat, c < 9223372036854775808 → (BitVec.ofInt 64 (c : Int)).toNat = c := fun c hc => by
    rw [BitVec.ofInt_natCast, BitVec.toNat_ofNat]; exact Nat.mod_eq_of_lt (by omega)
  show IntKind.i64.wrap ((BitVec.ofInt 64 ((2 ^ k * y : Nat) : Int) ||| BitVec.ofInt 64 (x : Int)).toNat : Int) = _
  have e : 2 ^ k * y ||| x = 2 ^ k * y + x := by
    rw [Nat.mul_comm, ← Nat.shiftLeft_eq, ← Nat.shiftLeft_add_eq_or_of_lt hx]
  rw [BitVec.toNat_or, ofI _ (by omega), ofI x (by omega), e, IntKind.wrap_i64]
  omega
theorem pk_date (a b c : Nat) (ha : a < 128) (hb : b < 16) (hc : c < 32) : IntKind.u16.wrap (bits .or .i64 (bits .or .i64 ((a : Int) * 512) ((b : Int) * 32)) (c : Int)) = ((a * 512 + b * 32 + c : Nat) : Int) := by
  have e1 := or64S (32 * b) a 9 (by omega) (by omega)
  rw [show ((2 ^ 9 * a : Nat) : Int) = (a : Int) * 512 by omega, show ((32 * b : Nat) : Int) = (b : Int) * 32 by omega] at e1
  have e2 := or64S c (16 * a + b) 5 (by omega) (by omega)
  rw [show (2 ^ 5 * (16 * a + b) : Nat) = 2 ^ 9 * a + 32 * b by omega] at e2
  rw [e1, e2]
  show ((2 ^ 9 * a + 32 * b + c : Nat) : Int) % 65536 = _
  omega
theorem pk_time (g j u : Nat) (hg : g < 24) (hj : j < 64) (hu : u < 32) : IntKind.u16.wrap (bits .or .i64 (bits .or .i64 ((g : Int) * 2048) ((j : Int) * 32)) (u : Int)) = ((g * 2048 + j * 32 + u : Nat) : Int) := by
  have e1 := or64S (32 * j) g 11 (by omega) (by omega)
  rw [show ((2 ^ 11 * g : Nat) : Int) = (g : Int) * 2048 by omega, show ((32 * j : Nat) : Int) = (j : Int) * 32 by omega] at e1
  have e2 := or64S u (64 * g + j) 5 (by omega) (by omega)
  rw [show (2 ^ 5 * (64 * g + j) : Nat) = 2 ^ 11 * g + 32 * j by omega] at e2
  rw [e1, e2]
  show ((2 ^ 11 * g + 32 * j + u : Nat) : Int) % 65536 = _
  omega
set_option maxHeartbeats 1000000 in
theorem Pack_yes (t : St) (hok : okP t) (hy : (Lit.int .i64 t.y).wf = true) (w : World) (ht : TabM w) :
    Calls Tryd.prog 21 #[stV t] w fun e w' => e = .returned (.tuple #[.int .u16 (datN t : Nat), .int .u16 (timN t : Nat), .int .i64 0]) ∧ Below w.heap.size w w' := by
  have HC := CheckS_c t hy
  rw [show chkS t = 0 from if_pos hok] at HC
  have h6 := hok.six
  have hd := datN_eq h6
  have hm := timN_eq h6
  have hd2 := datN_lt h6
  have hm2 := timN_lt h6
  generalize datN t = D at *
  generalize timN t = M at *
  obtain ⟨y, mo, d, h, mi, s⟩ := t
  obtain ⟨⟨h1, h2⟩, ⟨h3, h4⟩, ⟨h5, h6⟩, ⟨h7, h8⟩, ⟨h9, h10⟩, ⟨h11, h12, h13⟩⟩ := h6
  unfold stV at HC ⊢
  dsimp only at *
  obtain ⟨a, ha⟩ : ∃ a : Nat, y - 1980 = (a : Int) := ⟨(y - 1980).toNat, by omega⟩
  obtain ⟨b, rfl⟩ : ∃ b : Nat, mo = (b : Int) := ⟨mo.toNat, by omega⟩
  obtain ⟨c, rfl⟩ : ∃ c : Nat, d = (c : Int) := ⟨d.toNat, by omega⟩
  obtain ⟨g, rfl⟩ : ∃ g : Nat, h = (g : Int) := ⟨h.toNat, by omega⟩
  obtain ⟨j, rfl⟩ : ∃ j : Nat, mi = (j : Int) := ⟨mi.toNat, by omega⟩
  obtain ⟨u, hu⟩ : ∃ u : Nat, s / 2 = (u : Int) := ⟨(s / 2).toNat, by omega⟩
  rw [ha] at hd
  rw [hu] at hm
  have hu2 : u < 32 := by omega
  have HCH := Lib.hid HC
  have HT := Lib.hid ht
  have HDD := Lib.hid hd
  have HMM := Lib.hid hm
  clear HC ht hd hm hok h13
  go_enter Tryd.func21, Tryd.ntmps21
  go_wp2_with fail
  refine (HCH.out _ (HT.out.alloc _)).mono ?_
  rintro e w2 ⟨rfl, hb2⟩
  have hk := (Blk.new w 23 #[.int .i64 y, .int .i64 b, .int .i64 c, .int .i64 g, .int .i64 j, .int .i64 s]).below (by simp) hb2
  have c0 := hk.cell 0
  have c1 := hk.cell 1
  have c2 := hk.cell 2
  have c3 := hk.cell 3
  have c4 := hk.cell 4
  have c5 := hk.cell 5
  simp at c0 c1 c2 c3 c4 c5
  go_wp2
  go_quiet (fail)
  go_wp2
  go_ret3
  have HBB := ((Below.refl w.heap.size w).alloc (Nat.le_refl _) (.cells #[.int .i64 y, .int .i64 b, .int .i64 c, .int .i64 g, .int .i64 j, .int .i64 s] 23)).trans (hb2.mono (by simp))
  rw [pk_date a b c (by omega) (by omega) (by omega), pk_time g j u (by omega) (by omega) (by omega), show a * 512 + b * 32 + c = D by have := HDD.out; omega, show g * 2048 + j * 32 + u = M by have := HMM.out; omega]
  exact ⟨rfl, below_drewN HBB _⟩
set_option maxHeartbeats 1000000 in
theorem Pack_no (t : St) (hok : ¬ okP t) (hy : (Lit.int .i64 t.y).wf = true) (w : World) (ht : TabM w) :
    Calls Tryd.prog 21 #[stV t] w fun e w' => e = .returned (.tuple #[.int .u16 0, .int .u16 0, .int .i64 41]) ∧ Below w.heap.size w w' := by
  have HC := CheckS_c t hy
  rw [show chkS t = 41 from if_neg hok] at HC
  obtain ⟨y, mo, d, h, mi, s⟩ := t
  unfold stV at HC ⊢
  dsimp only at *
  have HCH := Lib.hid HC
  have HT := Lib.hid ht
  clear HC ht hok
  go_enter Tryd.func21, Tryd.ntmps21
  go_wp2_with fail
  refine (HCH.out _ (HT.out.alloc _)).mono ?_
  rintro e w2 ⟨rfl, hb2⟩
  go_wp2
  go_ret3
  exact ⟨rfl, ((Below.refl w.heap.size w).alloc (Nat.le_refl _) (.cells #[.int .i64 y, .int .i64 mo, .int .i64 d, .int .i64 h, .int .i64 mi, .int .i64 s] 23)).trans (hb2.mono (by simp))⟩
theorem info_stp : (Tryd.prog.info? 23).map (·.size) = some 6 := by kernel_rfl
theorem ld_stp {w : World} {g : Nat} {C : Array Value} (h : Blk w g 23 C) (hC : C.size = 6) : Sem.run Tryd.prog (loadVar 23 ⟨g, 0, none⟩) w = .ok (.agg C) w :=
  run_loadVar_row w g _ _ _ (0, 0) _ h Tryd.underlying23 rfl (by rw [info_stp, hC])
theorem st_stp {w : World} {g : Nat} {C : Array Value} (h : Blk w g 23 C) (hC : C.size = 6) (t : St) :
    Sem.run Tryd.prog (storeVar 23 ⟨g, 0, none⟩ (stV t)) w = .ok () (w.setRow g #[.int .i64 t.y, .int .i64 t.mo, .int .i64 t.d, .int .i64 t.h, .int .i64 t.mi, .int .i64 t.s]) :=
  run_storeVar_row w g _ _ _ _ h (by rw [info_stp]; rfl) (by rw [hC]; rfl) (by simp [Value.oneCell'])
theorem below_setRowS {B : Nat} {a w : World} (h : Below B a w) {g : Nat} (hg : B ≤ g) (D : Array Value) : Below B a (w.setRow g D) :=
  ⟨h.os, h.tape, h.output, by simpa [World.setRow] using h.size, fun k hk => by
    have e : (w.setRow g D).heap[k]? = w.heap[k]? := by
      simp [World.setRow, Array.getElem?_modify]
      intro e
      omega
    exact e.trans (h.block k hk)⟩
/-- what Unpack answers -/
def unV (d m : Nat) : Value := if okP (unSt d m) then .tuple #[stV (unSt d m), .int .i64 0] else .tuple #[stV st0, .int .i64 41]
set_option maxHeartbeats 1000000 in
theorem Unpack_c (d m : Nat) (hd : d < 65536) (hm : m < 65536) (w : World) (ht : TabM w) :
    Calls Tryd.prog 32 #[.int .u16 d, .int .u16 m] w fun e w' => e = .returned (unV d m) ∧ Below w.heap.size w w' := by
  obtain ⟨q1, e1⟩ : ∃ q : Nat, q = d / 512 := ⟨_, rfl⟩
  obtain ⟨q2, e2⟩ : ∃ q : Nat, q = d / 32 % 16 := ⟨_, rfl⟩
  obtain ⟨q3, e3⟩ : ∃ q : Nat, q = d % 32 := ⟨_, rfl⟩
  obtain ⟨q4, e4⟩ : ∃ q : Nat, q = m / 2048 := ⟨_, rfl⟩
  obtain ⟨q5, e5⟩ : ∃ q : Nat, q = m / 32 % 64 := ⟨_, rfl⟩
  obtain ⟨q6, e6⟩ : ∃ q : Nat, q = m % 32 := ⟨_, rfl⟩
  have ht2 : unSt d m = ⟨1980 + (q1 : Int), q2, q3, q4, q5, (q6 : Int) * 2⟩ := by
    unfold unSt
    rw [← e1, ← e2, ← e3, ← e4, ← e5, ← e6, show ((2 * q6 : Nat) : Int) = (q6 : Int) * 2 by omega]
  have f1 : (d : Int) / 512 = (q1 : Int) := by omega
  have f2 : bits .and .i64 ((d : Int) / 32) 15 = (q2 : Int) := by
    have := andLow ((d : Int) / 32) 4 (by decide)
    rw [show (15 : Int) = ((2 ^ 4 - 1 : Nat) : Int) from rfl, this]
    omega
  have f3 : bits .and .i64 (d : Int) 31 = (q3 : Int) := by
    have := andLow (d : Int) 5 (by decide)
    rw [show (31 : Int) = ((2 ^ 5 - 1 : Nat) : Int) from rfl, this]
    omega
  have f4 : (m : Int) / 2048 = (q4 : Int) := by omega
  have f5 : bits .and .i64 ((m : Int) / 32) 63 = (q5 : Int) := by
    have := andLow ((m : Int) / 32) 6 (by decide)
    rw [show (63 : Int) = ((2 ^ 6 - 1 : Nat) : Int) from rfl, this]
    omega
  have f6 : bits .and .i64 (m : Int) 31 = (q6 : Int) := by
    have := andLow (m : Int) 5 (by decide)
    rw [show (31 : Int) = ((2 ^ 5 - 1 : Nat) : Int) from rfl, this]
    omega
  have b1 : q1 < 128 := by omega
  have b6 : q6 < 32 := by omega
  have hv : unV d m = if okP ⟨1980 + (q1 : Int), q2, q3, q4, q5, (q6 : Int) * 2⟩ then .tuple #[stV ⟨1980 + (q1 : Int), q2, q3, q4, q5, (q6 : Int) * 2⟩, .int .i64 0] else .tuple #[stV st0, .int .i64 41] := by
    unfold unV
    rw [ht2]
  have HC := CheckS_c ⟨1980 + (q1 : Int), q2, q3, q4, q5, (q6 : Int) * 2⟩ (by
    show (Lit.int .i64 (1980 + (q1 : Int))).wf = true
    rw [show 1980 + (q1 : Int) = ((1980 + q1 : Nat) : Int) by omega]
    exact wfI _ (by omega))
  have hcv : chkS ⟨1980 + (q1 : Int), q2, q3, q4, q5, (q6 : Int) * 2⟩ = if okP ⟨1980 + (q1 : Int), q2, q3, q4, q5, (q6 : Int) * 2⟩ then 0 else 41 := rfl
  by_cases hok : okP ⟨1980 + (q1 : Int), q2, q3, q4, q5, (q6 : Int) * 2⟩
  · rw [if_pos hok] at hcv hv
    rw [hcv] at HC
    unfold stV at HC hv
    dsimp only at HC hv
    have HCH := Lib.hid HC
    have HT := Lib.hid ht
    have HV := Lib.hid hv
    clear HC ht hv hcv hok ht2 e1 e2 e3 e4 e5 e6
    go_enter Tryd.func32, Tryd.ntmps32
    go_wp2_with fail
    refine (HCH.out _ ((HT.out.alloc _).alloc _)).mono ?_
    rintro e w2 ⟨rfl, hb2⟩
    have k0 : Blk w2 w.heap.size 23 #[.int .i64 0, .int .i64 0, .int .i64 0, .int .i64 0, .int .i64 0, .int .i64 0] := ((Blk.new w 23 #[.int .i64 0, .int .i64 0, .int .i64 0, .int .i64 0, .int .i64 0, .int .i64 0]).below (w' := w2) (by simp) (by
      refine Below.trans ((Below.refl _ _).alloc (Nat.le_refl _) _) (hb2.mono ?_)
      simp))
    have k1 : Blk w2 (w.heap.size + 1) 23 #[.int .i64 (1980 + (q1 : Int)), .int .i64 q2, .int .i64 q3, .int .i64 q4, .int .i64 q5, .int .i64 ((q6 : Int) * 2)] := by
      have := (Blk.new (w.alloc (.cells #[.int .i64 0, .int .i64 0, .int .i64 0, .int .i64 0, .int .i64 0, .int .i64 0] 23)) 23 #[.int .i64 (1980 + (q1 : Int)), .int .i64 q2, .int .i64 q3, .int .i64 q4, .int .i64 q5, .int .i64 ((q6 : Int) * 2)]).below (by simp) hb2
      rwa [World.size_alloc] at this
    have hbel : Below w.heap.size w w2 := (((Below.refl w.heap.size w).alloc (Nat.le_refl _) _).alloc (by simp) _).trans (hb2.mono (by simp; omega))
    have t1 := ld_stp k1 rfl
    have t2 := st_stp k0 rfl ⟨1980 + (q1 : Int), q2, q3, q4, q5, (q6 : Int) * 2⟩
    unfold stV at t2
    dsimp only at t2
    have t3 := ld_stp (k0.setRow #[.int .i64 (1980 + (q1 : Int)), .int .i64 q2, .int .i64 q3, .int .i64 q4, .int .i64 q5, .int .i64 ((q6 : Int) * 2)]) rfl
    have HB9 := Lib.hid (below_setRowS hbel (Nat.le_refl _) #[.int .i64 (1980 + (q1 : Int)), .int .i64 q2, .int .i64 q3, .int .i64 q4, .int .i64 q5, .int .i64 ((q6 : Int) * 2)])
    clear k0 k1 hb2 hbel
    go_wp2_with (first
      | (with_reducible refine wpList_load_var _ _ (by with_unfolding_all rfl) t1 ?_)
      | (with_reducible refine wpList_store_var _ _ _ (by with_unfolding_all rfl) (by with_unfolding_all rfl) t2 ?_))
    refine bodyPost_ret (v := .tuple #[.agg #[.int .i64 (1980 + (q1 : Int)), .int .i64 q2, .int .i64 q3, .int .i64 q4, .int .i64 q5, .int .i64 ((q6 : Int) * 2)], .int .i64 0]) ?_ rfl ⟨by rw [HV.out], HB9.out⟩
    rw [results_cell_tmp rfl]
    simp [asAddr, Result.andThen, t3]
  · rw [if_neg hok] at hcv hv
    rw [hcv] at HC
    unfold stV at HC hv
    dsimp only [st0] at HC hv
    have HCH := Lib.hid HC
    have HT := Lib.hid ht
    have HV := Lib.hid hv
    clear HC ht hv hcv hok ht2 e1 e2 e3 e4 e5 e6
    go_enter Tryd.func32, Tryd.ntmps32
    go_wp2_with fail
    refine (HCH.out _ ((HT.out.alloc _).alloc _)).mono ?_
    rintro e w2 ⟨rfl, hb2⟩
    have k0 : Blk w2 w.heap.size 23 #[.int .i64 0, .int .i64 0, .int .i64 0, .int .i64 0, .int .i64 0, .int .i64 0] := ((Blk.new w 23 #[.int .i64 0, .int .i64 0, .int .i64 0, .int .i64 0, .int .i64 0, .int .i64 0]).below (w' := w2) (by simp) (by
      refine Below.trans ((Below.refl _ _).alloc (Nat.le_refl _) _) (hb2.mono ?_)
      simp))
    have hbel : Below w.heap.size w w2 := (((Below.refl w.heap.size w).alloc (Nat.le_refl _) _).alloc (by simp) _).trans (hb2.mono (by simp; omega))
    have t2 := st_stp k0 rfl st0
    unfold stV st0 at t2
    dsimp only at t2
    have t3 := ld_stp (k0.setRow #[.int .i64 0, .int .i64 0, .int .i64 0, .int .i64 0, .int .i64 0, .int .i64 0]) rfl
    have HB9 := Lib.hid (below_setRowS hbel (Nat.le_refl _) #[.int .i64 0, .int .i64 0, .int .i64 0, .int .i64 0, .int .i64 0, .int .i64 0])
    clear k0 hb2 hbel
    go_wp2_with (with_reducible refine wpList_store_var _ _ _ (by with_unfolding_all rfl) (by with_unfolding_all rfl) t2 ?_)
    refine bodyPost_ret (v := .tuple #[.agg #[.int .i64 0, .int .i64 0, .int .i64 0, .int .i64 0, .int .i64 0, .int .i64 0], .int .i64 41]) ?_ rfl ⟨by rw [HV.out], HB9.out⟩
    rw [results_cell_tmp rfl]
    simp [asAddr, Result.andThen, t3]
end Go.Proofs.YtacllgglpjdobaaDoor
