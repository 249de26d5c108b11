/-
  LAW 17: StampPacks. No conditions (but that the table lies as the program's text lays it).
-/
import Derived.Test.YtoodgbognpecjaaDoorLaw17
namespace Go.Proofs.YtoodgbognpecjaaDoor
open Go.RowKit
set_option maxRecDepth 1000000
set_option linter.unusedVariables false

/-- a stamp's box, and the table, while calls run -/
structure SEnv (w : World) (g : Nat) (t : St) (W : World) : Prop where
  bel : Below w.heap.size w W
  box : Blk W g 23 (stC t)
  tab : TabM W
theorem SEnv.go {w W W' : World} {g : Nat} {t : St} (h : SEnv w g t W) (hb : Below W.heap.size W W') : SEnv w g t W' := ⟨h.bel.trans (hb.mono h.bel.size), h.box.below h.box.lt hb, h.tab.below hb⟩
theorem SEnv.alloc {w W : World} {g : Nat} {t : St} (h : SEnv w g t W) (o : Obj) : SEnv w g t (W.alloc o) := h.go ((Below.refl _ _).alloc (Nat.le_refl _) o)
theorem SEnv.new {w : World} (t : St) (ht : TabM w) : SEnv w w.heap.size t (w.alloc (.cells (stC t) 23)) := ⟨(Below.refl _ _).alloc (Nat.le_refl _) _, Blk.new _ _ _, ht.alloc _⟩
theorem SEnv.six {w W : World} {g : Nat} {t : St} (h : SEnv w g t W) : W.cell? ⟨g, 0, none⟩ = some (.int .i64 t.y) ∧ W.cell? ⟨g, 1, none⟩ = some (.int .i64 t.mo) ∧ W.cell? ⟨g, 2, none⟩ = some (.int .i64 t.d) ∧ W.cell? ⟨g, 3, none⟩ = some (.int .i64 t.h) ∧ W.cell? ⟨g, 4, none⟩ = some (.int .i64 t.mi) ∧ W.cell? ⟨g, 5, none⟩ = some (.int .i64 t.s) := sixS h.box
set_option maxHeartbeats 1000000 in
theorem RefPackS_any (t : St) (w : World) :
    Calls Tryd.prog 11 #[stV t] w fun e w' => ∃ x y : Int, e = .returned (.tuple #[.int .i64 x, .int .i64 y]) ∧ Below w.heap.size w w' := by
  obtain ⟨y, mo, d, h, mi, s⟩ := t
  unfold stV
  dsimp only
  have HB := Lib.hid ((Below.refl w.heap.size w).alloc (Nat.le_refl _) (.cells #[.int .i64 y, .int .i64 mo, .int .i64 d, .int .i64 h, .int .i64 mi, .int .i64 s] 23))
  go_enter Tryd.func11, Tryd.ntmps11
  go_wp2
  go_quiet (fail)
  go_wp2
  go_ret2
  exact ⟨_, _, rfl, below_drewN HB.out _⟩
theorem un_both (d m : Nat) : ∃ (u : St) (F : Int) (G : Bool), unV d m = .tuple #[stV u, .int .i64 F] ∧ runV d m = .tuple #[stV u, .bool G] ∧ ((F = 0 ∧ G = true) ∨ (F = 41 ∧ G = false)) := by
  unfold unV runV
  by_cases h : okP (unSt d m)
  · exact ⟨_, _, _, if_pos h, if_pos h, .inl ⟨rfl, rfl⟩⟩
  · exact ⟨_, _, _, if_neg h, if_neg h, .inr ⟨rfl, rfl⟩⟩
set_option maxHeartbeats 8000000 in
theorem packs_yes (t : St) (hok : okP t) (hw : StW t) (d m : Nat) (hd : d < 65536) (hm : m < 65536) (w : World) (ht : TabM w) :
    Calls Tryd.prog 3 #[stV t, .int .u16 d, .int .u16 m] w fun e w' => e = .returned (.bool true) ∧ Below w.heap.size w w' := by
  obtain ⟨u, F, G, hu, hr, hFG⟩ := un_both d m
  have hU := fun W hW => Unpack_c d m hd hm W hW
  have hV := fun W => RefUnpackS_c d m hd hm W
  rw [hu] at hU
  rw [hr] at hV
  have hR := fun W => RefRight_c t hw.y W
  rw [show okSt t = true from decide_eq_true hok] at hR
  have hC := fun W hW => Check_c t hw.y W hW
  rw [show chkS t = 0 from if_pos hok] at hC
  have hP := fun W hW => Pack_yes t hok hw.y W hW
  have hQ := fun W => RefPackS_c t hok W
  have hE0 := SEnv.new (w := w) t ht
  have hy := hw.y
  have hD := fun W hW => Days_c t.y t.mo hy W hW
  have hD2 := fun W => RefDays_c t.y t.mo hy W
  have hDl := datN_lt hok.six
  have hMl := timN_lt hok.six
  generalize datN t = D at *
  generalize timN t = M at *
  obtain ⟨y, mo, dd, hh, mi, s⟩ := t
  obtain ⟨u1, u2, u3, u4, u5, u6⟩ := u
  unfold stV at hU hV hR hC hP hQ ⊢
  unfold stC at hE0
  dsimp only at hU hV hR hC hP hQ hE0 hD hD2 hy ⊢
  generalize dysN y mo = N at *
  have HU := Lib.hid hU
  have HV := Lib.hid hV
  have HR := Lib.hid hR
  have HC := Lib.hid hC
  have HP := Lib.hid hP
  have HQ := Lib.hid hQ
  have HD := Lib.hid hD
  have HD2 := Lib.hid hD2
  have E0 := Lib.hid hE0
  have HT := Lib.hid ht
  clear hU hV hR hC hP hQ hD hD2 hE0 hu hr ht hw hok hy
  have hzu : ((0 : Int) != 0) = false := rfl
  have hDD : wrap64 (D : Int) = (D : Int) := by unfold wrap64; omega
  have hMM : wrap64 (M : Int) = (M : Int) := by unfold wrap64; omega
  rcases hFG with ⟨rfl, rfl⟩ | ⟨rfl, rfl⟩
  all_goals
    go_enter Tryd.func3, Tryd.ntmps3
    go_wp2_with fail
    refine (alive17_c _ E0.out.tab).mono ?_
    rintro e w1 ⟨rfl, hb⟩
    have E1 := Lib.hid (E0.out.go hb)
    clear hb
    obtain ⟨c0, c1, c2, c3, c4, c5⟩ := E1.out.six
    dsimp only at c0 c1 c2 c3 c4 c5
    go_wp2_with fail
    refine (HR.out _).mono ?_
    rintro e w2 ⟨rfl, hb⟩
    have E2 := Lib.hid (E1.out.go hb)
    clear hb c0 c1 c2 c3 c4 c5
    obtain ⟨c0, c1, c2, c3, c4, c5⟩ := E2.out.six
    dsimp only at c0 c1 c2 c3 c4 c5
    go_wp2_with fail
    refine (HP.out _ E2.out.tab).mono ?_
    rintro e w3 ⟨rfl, hb⟩
    have E3 := Lib.hid (E2.out.go hb)
    clear hb c0 c1 c2 c3 c4 c5
    obtain ⟨c0, c1, c2, c3, c4, c5⟩ := E3.out.six
    dsimp only at c0 c1 c2 c3 c4 c5
    go_wp2_with fail
    refine (HC.out _ E3.out.tab).mono ?_
    rintro e w4 ⟨rfl, hb⟩
    have E4 := Lib.hid (E3.out.go hb)
    clear hb c0 c1 c2 c3 c4 c5
    obtain ⟨c0, c1, c2, c3, c4, c5⟩ := E4.out.six
    dsimp only at c0 c1 c2 c3 c4 c5
    go_wp2_with fail
    refine (HQ.out _).mono ?_
    rintro e w5 ⟨rfl, hb⟩
    have E5 := Lib.hid (E4.out.go hb)
    clear hb c0 c1 c2 c3 c4 c5
    obtain ⟨c0, c1, c2, c3, c4, c5⟩ := E5.out.six
    dsimp only at c0 c1 c2 c3 c4 c5
    go_wp2_with fail
    refine (HU.out _ E5.out.tab).mono ?_
    rintro e w6 ⟨rfl, hb⟩
    have E6 := Lib.hid (E5.out.go hb)
    clear hb c0 c1 c2 c3 c4 c5
    obtain ⟨c0, c1, c2, c3, c4, c5⟩ := E6.out.six
    dsimp only at c0 c1 c2 c3 c4 c5
    have E7 := Lib.hid (E6.out.alloc (.cells #[.int .i64 u1, .int .i64 u2, .int .i64 u3, .int .i64 u4, .int .i64 u5, .int .i64 u6] 23))
    have K1 := Lib.hid (Blk.new w6 23 #[.int .i64 u1, .int .i64 u2, .int .i64 u3, .int .i64 u4, .int .i64 u5, .int .i64 u6])
    go_wp2_with fail
    generalize w6.alloc (.cells #[.int .i64 u1, .int .i64 u2, .int .i64 u3, .int .i64 u4, .int .i64 u5, .int .i64 u6] 23) = w7 at *
    generalize w6.heap.size = g1 at *
    refine (HV.out w7).mono ?_
    rintro e w8 ⟨rfl, hb⟩
    have E8 := Lib.hid (E7.out.go hb)
    have k1 := K1.out.below K1.out.lt hb
    clear hb c0 c1 c2 c3 c4 c5
    have E9 := Lib.hid (E8.out.alloc (.cells #[.int .i64 u1, .int .i64 u2, .int .i64 u3, .int .i64 u4, .int .i64 u5, .int .i64 u6] 23))
    obtain ⟨c0, c1, c2, c3, c4, c5⟩ := E9.out.six
    dsimp only at c0 c1 c2 c3 c4 c5
    obtain ⟨d0, d1, d2, d3, d4, d5⟩ := sixS (k1.below k1.lt ((Below.refl _ w8).alloc (Nat.le_refl _) (.cells #[.int .i64 u1, .int .i64 u2, .int .i64 u3, .int .i64 u4, .int .i64 u5, .int .i64 u6] 23)))
    obtain ⟨e0, e1, e2, e3, e4, e5⟩ := sixS (Blk.new w8 23 #[.int .i64 u1, .int .i64 u2, .int .i64 u3, .int .i64 u4, .int .i64 u5, .int .i64 u6])
    clear k1
    go_wp2
    generalize w8.alloc (.cells #[.int .i64 u1, .int .i64 u2, .int .i64 u3, .int .i64 u4, .int .i64 u5, .int .i64 u6] 23) = w9 at *
    go_quiet ((first | (with_reducible exact quiet_left (HD.out _ (E9.out.tab.drewN _))) | (with_reducible exact quiet_left (HD2.out _))))
    go_wp2
    go_ret
    exact ⟨by simp, below_drewN E9.out.bel _⟩
set_option maxHeartbeats 8000000 in
theorem packs_no (t : St) (hok : ¬ okP t) (hw : StW t) (d m : Nat) (hd : d < 65536) (hm : m < 65536) (w : World) (ht : TabM w) :
    Calls Tryd.prog 3 #[stV t, .int .u16 d, .int .u16 m] w fun e w' => e = .returned (.bool true) ∧ Below w.heap.size w w' := by
  obtain ⟨u, F, G, hu, hr, hFG⟩ := un_both d m
  have hU := fun W hW => Unpack_c d m hd hm W hW
  have hV := fun W => RefUnpackS_c d m hd hm W
  rw [hu] at hU
  rw [hr] at hV
  have hR := fun W => RefRight_c t hw.y W
  rw [show okSt t = false from decide_eq_false hok] at hR
  have hC := fun W hW => Check_c t hw.y W hW
  rw [show chkS t = 41 from if_neg hok] at hC
  have hP := fun W hW => Pack_no t hok hw.y W hW
  have hQ := fun W => RefPackS_any t W
  have hE0 := SEnv.new (w := w) t ht
  have hy := hw.y
  have hD := fun W hW => Days_c t.y t.mo hy W hW
  have hD2 := fun W => RefDays_c t.y t.mo hy W
  obtain ⟨y, mo, dd, hh, mi, s⟩ := t
  obtain ⟨u1, u2, u3, u4, u5, u6⟩ := u
  unfold stV at hU hV hR hC hP hQ ⊢
  unfold stC at hE0
  dsimp only at hU hV hR hC hP hQ hE0 hD hD2 hy ⊢
  generalize dysN y mo = N at *
  have HU := Lib.hid hU
  have HV := Lib.hid hV
  have HR := Lib.hid hR
  have HC := Lib.hid hC
  have HP := Lib.hid hP
  have HQ := Lib.hid hQ
  have HD := Lib.hid hD
  have HD2 := Lib.hid hD2
  have E0 := Lib.hid hE0
  have HT := Lib.hid ht
  clear hU hV hR hC hP hQ hD hD2 hE0 hu hr ht hw hok hy
  have hzu : ((0 : Int) != 0) = false := rfl
  rcases hFG with ⟨rfl, rfl⟩ | ⟨rfl, rfl⟩
  all_goals
    go_enter Tryd.func3, Tryd.ntmps3
    go_wp2_with fail
    refine (alive17_c _ E0.out.tab).mono ?_
    rintro e w1 ⟨rfl, hb⟩
    have E1 := Lib.hid (E0.out.go hb)
    clear hb
    obtain ⟨c0, c1, c2, c3, c4, c5⟩ := E1.out.six
    dsimp only at c0 c1 c2 c3 c4 c5
    go_wp2_with fail
    refine (HR.out _).mono ?_
    rintro e w2 ⟨rfl, hb⟩
    have E2 := Lib.hid (E1.out.go hb)
    clear hb c0 c1 c2 c3 c4 c5
    obtain ⟨c0, c1, c2, c3, c4, c5⟩ := E2.out.six
    dsimp only at c0 c1 c2 c3 c4 c5
    go_wp2_with fail
    refine (HP.out _ E2.out.tab).mono ?_
    rintro e w3 ⟨rfl, hb⟩
    have E3 := Lib.hid (E2.out.go hb)
    clear hb c0 c1 c2 c3 c4 c5
    obtain ⟨c0, c1, c2, c3, c4, c5⟩ := E3.out.six
    dsimp only at c0 c1 c2 c3 c4 c5
    go_wp2_with fail
    refine (HC.out _ E3.out.tab).mono ?_
    rintro e w4 ⟨rfl, hb⟩
    have E4 := Lib.hid (E3.out.go hb)
    clear hb c0 c1 c2 c3 c4 c5
    obtain ⟨c0, c1, c2, c3, c4, c5⟩ := E4.out.six
    dsimp only at c0 c1 c2 c3 c4 c5
    go_wp2_with fail
    refine (HC.out _ E4.out.tab).mono ?_
    rintro e w5 ⟨rfl, hb⟩
    have E5 := Lib.hid (E4.out.go hb)
    clear hb c0 c1 c2 c3 c4 c5
    obtain ⟨c0, c1, c2, c3, c4, c5⟩ := E5.out.six
    dsimp only at c0 c1 c2 c3 c4 c5
    go_wp2_with fail
    refine (HQ.out _).mono ?_
    rintro e w6 ⟨x, z, rfl, hb⟩
    have E6 := Lib.hid (E5.out.go hb)
    clear hb c0 c1 c2 c3 c4 c5
    obtain ⟨c0, c1, c2, c3, c4, c5⟩ := E6.out.six
    dsimp only at c0 c1 c2 c3 c4 c5
    go_wp2_with fail
    refine (HU.out _ E6.out.tab).mono ?_
    rintro e w7 ⟨rfl, hb⟩
    have E7 := Lib.hid (E6.out.go hb)
    clear hb c0 c1 c2 c3 c4 c5
    obtain ⟨c0, c1, c2, c3, c4, c5⟩ := E7.out.six
    dsimp only at c0 c1 c2 c3 c4 c5
    have E8 := Lib.hid (E7.out.alloc (.cells #[.int .i64 u1, .int .i64 u2, .int .i64 u3, .int .i64 u4, .int .i64 u5, .int .i64 u6] 23))
    have K1 := Lib.hid (Blk.new w7 23 #[.int .i64 u1, .int .i64 u2, .int .i64 u3, .int .i64 u4, .int .i64 u5, .int .i64 u6])
    go_wp2_with fail
    generalize w7.alloc (.cells #[.int .i64 u1, .int .i64 u2, .int .i64 u3, .int .i64 u4, .int .i64 u5, .int .i64 u6] 23) = w8 at *
    generalize w7.heap.size = g1 at *
    refine (HV.out w8).mono ?_
    rintro e w9 ⟨rfl, hb⟩
    have E9 := Lib.hid (E8.out.go hb)
    have k1 := K1.out.below K1.out.lt hb
    clear hb c0 c1 c2 c3 c4 c5
    have E10 := Lib.hid (E9.out.alloc (.cells #[.int .i64 u1, .int .i64 u2, .int .i64 u3, .int .i64 u4, .int .i64 u5, .int .i64 u6] 23))
    obtain ⟨c0, c1, c2, c3, c4, c5⟩ := E10.out.six
    dsimp only at c0 c1 c2 c3 c4 c5
    obtain ⟨d0, d1, d2, d3, d4, d5⟩ := sixS (k1.below k1.lt ((Below.refl _ w9).alloc (Nat.le_refl _) (.cells #[.int .i64 u1, .int .i64 u2, .int .i64 u3, .int .i64 u4, .int .i64 u5, .int .i64 u6] 23)))
    obtain ⟨e0, e1, e2, e3, e4, e5⟩ := sixS (Blk.new w9 23 #[.int .i64 u1, .int .i64 u2, .int .i64 u3, .int .i64 u4, .int .i64 u5, .int .i64 u6])
    clear k1
    go_wp2
    generalize w9.alloc (.cells #[.int .i64 u1, .int .i64 u2, .int .i64 u3, .int .i64 u4, .int .i64 u5, .int .i64 u6] 23) = w10 at *
    go_quiet ((first | (with_reducible exact quiet_left (HD.out _ (E10.out.tab.drewN _))) | (with_reducible exact quiet_left (HD2.out _))))
    go_wp2
    go_ret
    exact ⟨by simp, below_drewN E10.out.bel _⟩
theorem walk_StampPacks (w : World) (ht : TabM w) (t : St) (hw : StW t) (d : Nat) (hd : d < 65536) (m : Nat) (hm : m < 65536) :
    Calls Tryd.prog 3 #[stV t, .int .u16 d, .int .u16 m] w fun e w' => e = .returned (.bool true) ∧ Below w.heap.size w w' := by
  by_cases hok : okP t
  · exact packs_yes t hok hw d m hd hm w ht
  · exact packs_no t hok hw d m hd hm w ht
end Go.Proofs.YtoodgbognpecjaaDoor
