/-
  LOCAL HEADERS: Write, and the document's Write. No conditions (but for the length of a name, and the table of months).
-/
import Derived.Test.YtcclhcbjolelcaaDoorLocl
import Derived.Laws.CopyRow
namespace Go.Proofs.YtcclhcbjolelcaaDoor
open Go.RowKit
set_option maxRecDepth 100000
set_option linter.unusedVariables false

theorem lay_c (h : Hd) (m d t : Nat) (hm : h.m = (m : Int)) (hm2 : m < 65536) (hd : d < 65536) (ht : t < 65536) (hw : HdW h) (hn : h.nm.length ≤ 65535) (w : World) :
    Calls Tryd.prog 21 #[hdV h, .int .u16 d, .int .u16 t] w fun e w' => ∃ A N c, e = .returned (.slice A N c) ∧ w'.ownsRow w.heap.size 5 1 (.slice A N c) N (cs (hdB h d t)) ∧ Below w.heap.size w w' := by
  cases hg : grt h
  · exact lay_false h hg m d t hm hm2 hd ht hw hn w
  · exact lay_true h hg m d t hm hm2 hd ht hw hn w
theorem Rbytes_c (h : Hd) (m d t : Nat) (D T : Int) (hm : h.m = (m : Int)) (hm2 : m < 65536) (hD : IntKind.u64.wrap D = (d : Int)) (hT : IntKind.u64.wrap T = (t : Int)) (hd : d < two64) (ht : t < two64) (hw : HdW h) (hn : h.nm.length ≤ 65535) (w : World)
    (hP : ∀ w, Calls Tryd.prog 38 #[stV h.t] w fun e w' => e = .returned (.tuple #[.int .i64 D, .int .i64 T]) ∧ Below w.heap.size w w') :
    Calls Tryd.prog 23 #[hdV h] w fun e w' => ∃ A N c, e = .returned (.slice A N c) ∧ w'.ownsRow w.heap.size 5 1 (.slice A N c) N (cs (hdB h d t)) ∧ Below w.heap.size w w' := by
  cases hg : grt h
  · exact Rbytes_false h hg m d t D T hm hm2 hD hT hd ht hw hn w hP
  · exact Rbytes_true h hg m d t D T hm hm2 hD hT hd ht hw hn w hP
theorem Blk.setRowO {w : World} {k g : Nat} {t : TypeId} {C : Array Value} (h : Blk w k t C) (hne : k ≠ g) (D : Array Value) : Blk (w.setRow g D) k t C := by
  have e : (w.setRow g D).heap[k]? = w.heap[k]? := by
    simp [World.setRow, Array.getElem?_modify]
    intro e
    omega
  exact e.trans h
/-- a part of a variable is stored -/
theorem wpList_store_at {P : Program} {w : World} {ops : Array Oper} {rest : List Oper} {a : Act} {Q : Exit → Act → World → Prop} {p x : Operand} {T ty : TypeId} {pos : String} {aft : Array Edge} (ad : Addr) (v : Value) (w' : World)
    (hp : a.eval p = .pointer (some ad)) (hx : a.eval x = v) (hrun : Sem.run P (storeVar T ad v) w = .ok () w') (hK : wpList P ops Q rest a w') :
    wpList P ops Q ({ dst := none, op := Op.store T p x, type := ty, pos := pos, after := aft, guard := none } :: rest) a w := by
  refine wpList_plain rfl fun K hK' => ?_
  have hr : (Instr.storeAt T (.pointer (some ad)) v).run P w = .ok () w' := by
    simp only [Instr.storeAt, Instr.sureAddr, Sem.run_bind, Sem.run_pure, Result.andThen]
    exact hrun
  unfold Oper.wp
  simp [execOp, hp, hx, hr, Result.andThen]
  exact hK' _ _ hK
/-- a stamp is laid into a header's cells -/
theorem st_stpA {w : World} {g : Nat} {t : TypeId} {a0 a1 a2 a3 a4 a5 a6 a7 a8 a9 a10 : Value} (h : Blk w g t #[a0, a1, a2, a3, a4, a5, a6, a7, a8, a9, a10]) (y mo d hh mi s : Int) :
    Sem.run Tryd.prog (storeVar 23 ⟨g, 1, none⟩ (.agg #[.int .i64 y, .int .i64 mo, .int .i64 d, .int .i64 hh, .int .i64 mi, .int .i64 s])) w = .ok () (w.setRow g #[a0, .int .i64 y, .int .i64 mo, .int .i64 d, .int .i64 hh, .int .i64 mi, .int .i64 s, a7, a8, a9, a10]) := by
  have h1 := run_storeCells_at (P := Tryd.prog) g 1 t [.int .i64 y, .int .i64 mo, .int .i64 d, .int .i64 hh, .int .i64 mi, .int .i64 s] 0 _ w h (by simp) (by simp [Value.oneCell'])
  have hi := info_stp
  cases hq : Tryd.prog.info? 23 with
  | none => simp [hq] at hi
  | some i =>
    have hs : i.size = 6 := by simpa [hq] using hi
    simp [storeVar, sizeOf, typeInfo, hq, Value.cells, hs, h1]
/-- what Write answers -/
def wrX (h : Hd) : List F := if chkH h = 0 then hdX h else []
theorem mth_nat {x : Int} (h : x = 0 ∨ x = 8) : ∃ m : Nat, x = (m : Int) ∧ m < 65536 := ⟨x.toNat, by omega, by omega⟩
set_option maxHeartbeats 2000000 in
theorem Write_c (h : Hd) (hw : HdW h) (hn : h.nm.length ≤ 1000000) (w : World) (ht : TabM w) :
    Calls Tryd.prog 9 #[hdV h] w fun e w' => ∃ A N c, e = .returned (.tuple #[.slice A N c, .int .i64 (chkH h)]) ∧ w'.ownsRow w.heap.size 5 1 (.slice A N c) N (cs (wrX h)) ∧ Below w.heap.size w w' := by
  have HM := Lib.hid (checkMethod_c h.m)
  have HN := Lib.hid (Check_c h.nm hn)
  have HT := Lib.hid ht
  have HBL := Lib.hid ((Below.refl w.heap.size w).alloc (Nat.le_refl _) (.cells (hdC h) 27))
  have HK := Lib.hid (Blk.new w 27 (hdC h))
  by_cases h1 : h.m = 0 ∨ h.m = 8
  · have e1 : mthE h.m = 0 := if_pos h1
    rw [e1] at HM
    by_cases h2 : okP h.t
    · have HP := Lib.hid (Pack_yes h.t h2 hw.t.y)
      by_cases h3 : nokE h.nm = 0
      · rw [h3] at HN
        have hc := chkH_of h1 h2 h3
        have hx : wrX h = hdX h := if_pos hc
        have hnn := nok_le h3
        obtain ⟨m, hm, hm2⟩ := mth_nat h1
        have HL := Lib.hid (lay_c h m (datN h.t) (timN h.t) hm hm2 (datN_lt h2.six) (timN_lt h2.six) hw (by omega))
        unfold hdX at hx
        rw [hc, hx]
        generalize hdB h (datN h.t) (timN h.t) = X at *
        clear h1 h2 h3 hc hx hw hm ht e1
        generalize datN h.t = d at *
        generalize timN h.t = t at *
        obtain ⟨mm, ⟨y, mo, dd, hh, mi, s⟩, sum, p, z, nm⟩ := h
        unfold hdV hdC at *
        unfold stV at *
        dsimp only at *
        go_enter Tryd.func9, Tryd.ntmps9
        go_wp2_with fail
        refine (HM.out _).mono ?_
        rintro e _ ⟨rfl, rfl⟩
        go_wp2_with fail
        refine (HP.out _ (HT.out.alloc _)).mono ?_
        rintro e W2 ⟨rfl, hb2⟩
        have HK2 := Lib.hid (HK.out.below HK.out.lt hb2)
        have HB2 := Lib.hid (HBL.out.trans (hb2.mono HBL.out.size))
        clear hb2
        have c10 := (HK2.out.cell 10).trans rfl
        go_wp2_with fail
        refine (HN.out _).mono ?_
        rintro e W3 ⟨rfl, hb3⟩
        have HK3 := Lib.hid (HK2.out.below HK2.out.lt hb3)
        have HB3 := Lib.hid (HB2.out.trans (hb3.mono HB2.out.size))
        clear hb3 c10
        have q1 := ld_hd HK3.out rfl
        go_wp2_with (with_reducible refine wpList_load_var _ _ (by with_unfolding_all rfl) q1 ?_)
        refine (HL.out _).mono ?_
        rintro e W4 ⟨A, N, c, rfl, hown, hb4⟩
        go_wp2
        go_ret2
        exact ⟨A, N, c, rfl, own_base2 hown HB3.out.size, HB3.out.trans (hb4.mono HB3.out.size)⟩
      · have hc : chkH h = nokE h.nm := by unfold chkH; rw [if_pos h1, if_pos h2]
        have hx : wrX h = [] := if_neg (by rw [hc]; exact h3)
        rw [hc, hx]
        have b3 : (nokE h.nm != 0) = true := by rw [bne_iff_ne]; exact h3
        generalize nokE h.nm = k at *
        clear h1 h2 h3 hc hx hw ht e1
        generalize datN h.t = d at *
        generalize timN h.t = t at *
        obtain ⟨mm, ⟨y, mo, dd, hh, mi, s⟩, sum, p, z, nm⟩ := h
        unfold hdV hdC at *
        unfold stV at *
        dsimp only at *
        go_enter Tryd.func9, Tryd.ntmps9
        go_wp2_with fail
        refine (HM.out _).mono ?_
        rintro e _ ⟨rfl, rfl⟩
        go_wp2_with fail
        refine (HP.out _ (HT.out.alloc _)).mono ?_
        rintro e W2 ⟨rfl, hb2⟩
        have HK2 := Lib.hid (HK.out.below HK.out.lt hb2)
        have HB2 := Lib.hid (HBL.out.trans (hb2.mono HBL.out.size))
        clear hb2
        have c10 := (HK2.out.cell 10).trans rfl
        go_wp2_with fail
        refine (HN.out _).mono ?_
        rintro e W3 ⟨rfl, hb3⟩
        go_wp2
        go_ret2
        exact ⟨none, 0, 0, rfl, World.ownsRow_nil _ _ _ _, HB2.out.trans (hb3.mono HB2.out.size)⟩
    · have hc : chkH h = 41 := by unfold chkH; rw [if_pos h1, if_neg h2]
      have hx : wrX h = [] := if_neg (by rw [hc]; decide)
      have HP := Lib.hid (Pack_no h.t h2 hw.t.y)
      rw [hc, hx]
      clear h1 h2 hc hx hw ht e1
      obtain ⟨mm, ⟨y, mo, dd, hh, mi, s⟩, sum, p, z, nm⟩ := h
      unfold hdV hdC at *
      unfold stV at *
      dsimp only at *
      go_enter Tryd.func9, Tryd.ntmps9
      go_wp2_with fail
      refine (HM.out _).mono ?_
      rintro e _ ⟨rfl, rfl⟩
      go_wp2_with fail
      refine (HP.out _ (HT.out.alloc _)).mono ?_
      rintro e W2 ⟨rfl, hb2⟩
      go_wp2
      go_ret2
      exact ⟨none, 0, 0, rfl, World.ownsRow_nil _ _ _ _, HBL.out.trans (hb2.mono HBL.out.size)⟩
  · have hc : chkH h = 43 := if_neg h1
    have hx : wrX h = [] := if_neg (by rw [hc]; decide)
    have e1 : mthE h.m = 43 := if_neg h1
    rw [e1] at HM
    rw [hc, hx]
    clear h1 hc hx hw ht e1
    obtain ⟨mm, ⟨y, mo, dd, hh, mi, s⟩, sum, p, z, nm⟩ := h
    unfold hdV hdC at *
    dsimp only at *
    go_enter Tryd.func9, Tryd.ntmps9
    go_wp2_with fail
    refine (HM.out _).mono ?_
    rintro e _ ⟨rfl, rfl⟩
    go_wp2
    go_ret2
    exact ⟨none, 0, 0, rfl, World.ownsRow_nil _ _ _ _, HBL.out⟩
set_option maxHeartbeats 2000000 in
theorem RWrite_c (h : Hd) (hw : HdW h) (hn : h.nm.length ≤ 1000000) (w : World) :
    Calls Tryd.prog 10 #[hdV h] w fun e w' => ∃ A N c, e = .returned (.tuple #[.slice A N c, .int .i64 (chkH h)]) ∧ w'.ownsRow w.heap.size 5 1 (.slice A N c) N (cs (wrX h)) ∧ Below w.heap.size w w' := by
  have HC := Lib.hid (RCheckH_c h hn hw.t.y)
  have HBL := Lib.hid ((Below.refl w.heap.size w).alloc (Nat.le_refl _) (.cells (hdC h) 35))
  have HK := Lib.hid (Blk.new w 35 (hdC h))
  by_cases h0 : chkH h = 0
  · obtain ⟨h1, h2, h3⟩ := chkH_ok h0
    have hx : wrX h = hdX h := if_pos h0
    obtain ⟨m, hm, hm2⟩ := mth_nat h1
    have hd := datN_lt h2.six
    have ht := timN_lt h2.six
    have hnn := nok_le h3
    have HL := Lib.hid (fun w => Rbytes_c h m (datN h.t) (timN h.t) (datN h.t) (timN h.t) hm hm2 (by show ((datN h.t : Nat) : Int) % 18446744073709551616 = _; omega) (by show ((timN h.t : Nat) : Int) % 18446744073709551616 = _; omega) (by unfold two64; omega) (by unfold two64; omega) hw (by omega) w (fun w => RefPackS_c h.t h2 w))
    unfold hdX at hx
    rw [h0] at HC ⊢
    rw [hx]
    generalize hdB h (datN h.t) (timN h.t) = X at *
    clear h1 h2 h3 h0 hx hw hm hd ht hnn
    obtain ⟨mm, ⟨y, mo, dd, hh, mi, s⟩, sum, p, z, nm⟩ := h
    unfold hdV hdC at *
    dsimp only at *
    go_enter Tryd.func10, Tryd.ntmps10
    go_wp2_with fail
    refine (HC.out _).mono ?_
    rintro e W2 ⟨rfl, hb2⟩
    have HK2 := Lib.hid (HK.out.below HK.out.lt hb2)
    have HB2 := Lib.hid (HBL.out.trans (hb2.mono HBL.out.size))
    clear hb2
    have q1 := ld_hdR HK2.out rfl
    go_wp2_with (with_reducible refine wpList_load_var _ _ (by with_unfolding_all rfl) q1 ?_)
    refine (HL.out _).mono ?_
    rintro e W4 ⟨A, N, c, rfl, hown, hb4⟩
    go_wp2
    go_ret2
    exact ⟨A, N, c, rfl, own_base2 hown HB2.out.size, HB2.out.trans (hb4.mono HB2.out.size)⟩
  · have hx : wrX h = [] := if_neg h0
    rw [hx]
    have b0 : (chkH h != 0) = true := by rw [bne_iff_ne]; exact h0
    generalize chkH h = k at *
    clear h0 hx hw
    obtain ⟨mm, ⟨y, mo, dd, hh, mi, s⟩, sum, p, z, nm⟩ := h
    unfold hdV hdC at *
    dsimp only at *
    go_enter Tryd.func10, Tryd.ntmps10
    go_wp2_with fail
    refine (HC.out _).mono ?_
    rintro e W2 ⟨rfl, hb2⟩
    go_wp2
    go_ret2
    exact ⟨none, 0, 0, rfl, World.ownsRow_nil _ _ _ _, HBL.out.trans (hb2.mono HBL.out.size)⟩
end Go.Proofs.YtcclhcbjolelcaaDoor
