/-
  RECORDS OF THE DIRECTORY: lay, the document's bytes, Write, and the document's Write (WRITTEN by wip/gen19m.py). No conditions (but for the length of a name, and the table of months).
-/
import Derived.Test.YtacllgglpjdobaaDoorCnja
import Derived.Test.YtacllgglpjdobaaDoorCnjb
import Derived.Test.YtacllgglpjdobaaDoorCnjc
import Derived.Test.YtacllgglpjdobaaDoorCnk
import Derived.Laws.CopyRow
namespace Go.Proofs.YtacllgglpjdobaaDoor
open Go.RowKit
set_option maxRecDepth 100000
set_option linter.unusedVariables false

theorem layC_c (c : Rc) (m t d : Nat) (hm : c.h.m = (m : Int)) (hm2 : m < 65536) (hd : d < 65536) (ht : t < 65536) (hW : RcW c) (hn : c.h.nm.length ≤ 65535) (w : World) :
    Calls Tryd.prog 23 #[rcV c, .int .u16 d, .int .u16 t] w fun e w' => ∃ A N ca, e = .returned (.slice A N ca) ∧ w'.ownsRow w.heap.size 5 1 (.slice A N ca) N (cs (cdB c m t d)) ∧ Below w.heap.size w w' := by
  by_cases hb : bh c = 0
  · exact layC_a c hb m t d hm hm2 hd ht hW hn w
  · by_cases hk : 65535 ≤ c.d
    · exact layC_d c hk m t d hm hm2 hd ht hW hn w
    · exact layC_b c hb hk m t d hm hm2 hd ht hW hn w
theorem RBytesC_c (c : Rc) (m t d : Nat) (hm : m < 65536) (ht : t < 65536) (hd : d < 65536) (hW : RcW c) (hn : c.h.nm.length ≤ 65535) (w : World) :
    Calls Tryd.prog 26 #[rcV c, .int .u64 (m : Nat), .int .u64 (t : Nat), .int .u64 (d : Nat)] w fun e w' => ∃ A N ca, e = .returned (.slice A N ca) ∧ w'.ownsRow w.heap.size 5 1 (.slice A N ca) N (cs (cdB c m t d)) ∧ Below w.heap.size w w' := by
  by_cases hb : bh c = 0
  · exact RBytesC_a c hb m t d hm ht hd hW hn w
  · exact RBytesC_b c hb m t d hm ht hd hW hn w
theorem Blk.setRowO {w : World} {k g : Nat} {t : TypeId} {C : Array Value} (h : Blk w k t C) (hne : k ≠ g) (D : Array Value) : Blk (w.setRow g D) k t C := by
  have e : (w.setRow g D).heap[k]? = w.heap[k]? := by
    simp [World.setRow, Array.getElem?_modify]
    intro e
    omega
  exact e.trans h
/-- a part of a variable is stored -/
theorem wpList_store_at {P : Program} {w : World} {ops : Array Oper} {rest : List Oper} {a : Act} {Q : Exit → Act → World → Prop} {p x : Operand} {T ty : TypeId} {pos : String} {aft : Array Edge} (ad : Addr) (v : Value) (w' : World)
    (hp : a.eval p = .pointer (some ad)) (hx : a.eval x = v) (hrun : Sem.run P (storeVar T ad v) w = .ok () w') (hK : wpList P ops Q rest a w') :
    wpList P ops Q ({ dst := none, op := Op.store T p x, type := ty, pos := pos, after := aft, guard := none } :: rest) a w := by
  refine wpList_plain rfl fun K hK' => ?_
  have hr : (Instr.storeAt T (.pointer (some ad)) v).run P w = .ok () w' := by
    simp only [Instr.storeAt, Instr.sureAddr, Sem.run_bind, Sem.run_pure, Result.andThen]
    exact hrun
  unfold Oper.wp
  simp [execOp, hp, hx, hr, Result.andThen]
  exact hK' _ _ hK
/-- a stamp is laid into a record's cells -/
theorem st_stpC {w : World} {g : Nat} {t : TypeId} {a0 a1 a2 a3 a4 a5 a6 a7 a8 a9 a10 a11 a12 : Value} (h : Blk w g t #[a0, a1, a2, a3, a4, a5, a6, a7, a8, a9, a10, a11, a12]) (y mo d hh mi s : Int) :
    Sem.run Tryd.prog (storeVar 23 ⟨g, 1, none⟩ (.agg #[.int .i64 y, .int .i64 mo, .int .i64 d, .int .i64 hh, .int .i64 mi, .int .i64 s])) w = .ok () (w.setRow g #[a0, .int .i64 y, .int .i64 mo, .int .i64 d, .int .i64 hh, .int .i64 mi, .int .i64 s, a7, a8, a9, a10, a11, a12]) := by
  have h1 := run_storeCells_at (P := Tryd.prog) g 1 t [.int .i64 y, .int .i64 mo, .int .i64 d, .int .i64 hh, .int .i64 mi, .int .i64 s] 0 _ w h (by simp) (by simp [Value.oneCell'])
  have hi := info_stp
  cases hq : Tryd.prog.info? 23 with
  | none => simp [hq] at hi
  | some i =>
    have hs : i.size = 6 := by simpa [hq] using hi
    simp [storeVar, sizeOf, typeInfo, hq, Value.cells, hs, h1]
/-- what Write answers -/
def wrC (c : Rc) : List F := if chkH c.h = 0 then crX c else []
theorem mth_natC {x : Int} (h : x = 0 ∨ x = 8) : ∃ m : Nat, x = (m : Int) ∧ m < 65536 := ⟨x.toNat, by omega, by omega⟩
set_option maxHeartbeats 2000000 in
theorem WriteC_c (c : Rc) (hW : RcW c) (hn : c.h.nm.length ≤ 1000000) (w : World) (ht : TabM w) :
    Calls Tryd.prog 9 #[rcV c] w fun e w' => ∃ A N ca, e = .returned (.tuple #[.slice A N ca, .int .i64 (chkH c.h)]) ∧ w'.ownsRow w.heap.size 5 1 (.slice A N ca) N (cs (wrC c)) ∧ Below w.heap.size w w' := by
  have HM := Lib.hid (checkMethodC_c c.h.m)
  have HN := Lib.hid (Check_c c.h.nm hn)
  have HT := Lib.hid ht
  have HBL := Lib.hid ((Below.refl w.heap.size w).alloc (Nat.le_refl _) (.cells (rcC c) 29))
  have HK := Lib.hid (Blk.new w 29 (rcC c))
  by_cases h1 : c.h.m = 0 ∨ c.h.m = 8
  · have e1 : mthE c.h.m = 0 := if_pos h1
    rw [e1] at HM
    by_cases h2 : okP c.h.t
    · have HP := Lib.hid (Pack_yes c.h.t h2 hW.h.t.y)
      by_cases h3 : nokE c.h.nm = 0
      · rw [h3] at HN
        have hc := chkH_of h1 h2 h3
        have hx : wrC c = crX c := if_pos hc
        have hnn := nok_le h3
        obtain ⟨m, hm, hm2⟩ := mth_natC h1
        have HL := Lib.hid (layC_c c m (timN c.h.t) (datN c.h.t) hm hm2 (datN_lt h2.six) (timN_lt h2.six) hW (by omega))
        rw [crX_of hm] at hx
        rw [hc, hx]
        generalize cdB c m (timN c.h.t) (datN c.h.t) = X at *
        clear h1 h2 h3 hc hx hW hm ht e1
        generalize datN c.h.t = d at *
        generalize timN c.h.t = t at *
        obtain ⟨⟨mm, ⟨y, mo, dd, hh, mi, s⟩, sum, p, z, nm⟩, kd, o⟩ := c
        unfold rcV rcC at *
        unfold stV at *
        dsimp only at *
        go_enter Tryd.func9, Tryd.ntmps9
        go_wp2_with fail
        refine (HM.out _).mono ?_
        rintro e _ ⟨rfl, rfl⟩
        go_wp2_with fail
        refine (HP.out _ (HT.out.alloc _)).mono ?_
        rintro e W2 ⟨rfl, hb2⟩
        have HK2 := Lib.hid (HK.out.below HK.out.lt hb2)
        have HB2 := Lib.hid (HBL.out.trans (hb2.mono HBL.out.size))
        clear hb2
        have c10 := (HK2.out.cell 10).trans rfl
        go_wp2_with fail
        refine (HN.out _).mono ?_
        rintro e W3 ⟨rfl, hb3⟩
        have HK3 := Lib.hid (HK2.out.below HK2.out.lt hb3)
        have HB3 := Lib.hid (HB2.out.trans (hb3.mono HB2.out.size))
        clear hb3 c10
        have q1 := ld_rc HK3.out rfl
        go_wp2_with (with_reducible refine wpList_load_var _ _ (by with_unfolding_all rfl) q1 ?_)
        refine (HL.out _).mono ?_
        rintro e W4 ⟨A, N, ca, rfl, hown, hb4⟩
        go_wp2
        go_ret2
        exact ⟨A, N, ca, rfl, own_base2 hown HB3.out.size, HB3.out.trans (hb4.mono HB3.out.size)⟩
      · have hc : chkH c.h = nokE c.h.nm := by unfold chkH; rw [if_pos h1, if_pos h2]
        have hx : wrC c = [] := if_neg (by rw [hc]; exact h3)
        rw [hc, hx]
        have b3 : (nokE c.h.nm != 0) = true := by rw [bne_iff_ne]; exact h3
        generalize nokE c.h.nm = k at *
        clear h1 h2 h3 hc hx hW ht e1
        generalize datN c.h.t = d at *
        generalize timN c.h.t = t at *
        obtain ⟨⟨mm, ⟨y, mo, dd, hh, mi, s⟩, sum, p, z, nm⟩, kd, o⟩ := c
        unfold rcV rcC at *
        unfold stV at *
        dsimp only at *
        go_enter Tryd.func9, Tryd.ntmps9
        go_wp2_with fail
        refine (HM.out _).mono ?_
        rintro e _ ⟨rfl, rfl⟩
        go_wp2_with fail
        refine (HP.out _ (HT.out.alloc _)).mono ?_
        rintro e W2 ⟨rfl, hb2⟩
        have HK2 := Lib.hid (HK.out.below HK.out.lt hb2)
        have HB2 := Lib.hid (HBL.out.trans (hb2.mono HBL.out.size))
        clear hb2
        have c10 := (HK2.out.cell 10).trans rfl
        go_wp2_with fail
        refine (HN.out _).mono ?_
        rintro e W3 ⟨rfl, hb3⟩
        go_wp2
        go_ret2
        exact ⟨none, 0, 0, rfl, World.ownsRow_nil _ _ _ _, HB2.out.trans (hb3.mono HB2.out.size)⟩
    · have hc : chkH c.h = 41 := by unfold chkH; rw [if_pos h1, if_neg h2]
      have hx : wrC c = [] := if_neg (by rw [hc]; decide)
      have HP := Lib.hid (Pack_no c.h.t h2 hW.h.t.y)
      rw [hc, hx]
      clear h1 h2 hc hx hW ht e1
      obtain ⟨⟨mm, ⟨y, mo, dd, hh, mi, s⟩, sum, p, z, nm⟩, kd, o⟩ := c
      unfold rcV rcC at *
      unfold stV at *
      dsimp only at *
      go_enter Tryd.func9, Tryd.ntmps9
      go_wp2_with fail
      refine (HM.out _).mono ?_
      rintro e _ ⟨rfl, rfl⟩
      go_wp2_with fail
      refine (HP.out _ (HT.out.alloc _)).mono ?_
      rintro e W2 ⟨rfl, hb2⟩
      go_wp2
      go_ret2
      exact ⟨none, 0, 0, rfl, World.ownsRow_nil _ _ _ _, HBL.out.trans (hb2.mono HBL.out.size)⟩
  · have hc : chkH c.h = 43 := if_neg h1
    have hx : wrC c = [] := if_neg (by rw [hc]; decide)
    have e1 : mthE c.h.m = 43 := if_neg h1
    rw [e1] at HM
    rw [hc, hx]
    clear h1 hc hx hW ht e1
    obtain ⟨⟨mm, ⟨y, mo, dd, hh, mi, s⟩, sum, p, z, nm⟩, kd, o⟩ := c
    unfold rcV rcC at *
    dsimp only at *
    go_enter Tryd.func9, Tryd.ntmps9
    go_wp2_with fail
    refine (HM.out _).mono ?_
    rintro e _ ⟨rfl, rfl⟩
    go_wp2
    go_ret2
    exact ⟨none, 0, 0, rfl, World.ownsRow_nil _ _ _ _, HBL.out⟩
set_option maxHeartbeats 2000000 in
theorem RWriteC_c (c : Rc) (hW : RcW c) (hn : c.h.nm.length ≤ 1000000) (w : World) :
    Calls Tryd.prog 10 #[rcV c] w fun e w' => ∃ A N ca, e = .returned (.tuple #[.slice A N ca, .int .i64 (chkH c.h)]) ∧ w'.ownsRow w.heap.size 5 1 (.slice A N ca) N (cs (wrC c)) ∧ Below w.heap.size w w' := by
  have HC := Lib.hid (RCheckH_c c.h hn hW.h.t.y)
  have HBL := Lib.hid ((Below.refl w.heap.size w).alloc (Nat.le_refl _) (.cells (rcC c) 39))
  have HK := Lib.hid (Blk.new w 39 (rcC c))
  by_cases h0 : chkH c.h = 0
  · obtain ⟨h1, h2, h3⟩ := chkH_ok h0
    have hx : wrC c = crX c := if_pos h0
    obtain ⟨m, hm, hm2⟩ := mth_natC h1
    have hd := datN_lt h2.six
    have ht := timN_lt h2.six
    have hnn := nok_le h3
    have HL := Lib.hid (fun w => RBytesC_c c m (timN c.h.t) (datN c.h.t) hm2 (by omega) (by omega) hW (by omega) w)
    have HP := Lib.hid (fun w => RefPackS_c c.h.t h2 w)
    rw [crX_of hm] at hx
    rw [h0] at HC ⊢
    rw [hx]
    generalize cdB c m (timN c.h.t) (datN c.h.t) = X at *
    generalize datN c.h.t = d at *
    generalize timN c.h.t = t at *
    have u1 : IntKind.u64.wrap (m : Int) = (m : Int) := by show (m : Int) % 18446744073709551616 = _; omega
    have u2 : IntKind.u64.wrap (t : Int) = (t : Int) := by show (t : Int) % 18446744073709551616 = _; omega
    have u3 : IntKind.u64.wrap (d : Int) = (d : Int) := by show (d : Int) % 18446744073709551616 = _; omega
    clear h1 h2 h3 h0 hx hW hd ht hnn
    obtain ⟨⟨mm, ⟨y, mo, dd, hh, mi, s⟩, sum, p, z, nm⟩, kd, o⟩ := c
    dsimp only at hm
    subst hm
    unfold rcV rcC at *
    unfold hdV hdC at *
    unfold stV at *
    dsimp only at *
    go_enter Tryd.func10, Tryd.ntmps10
    go_wp2_with fail
    refine (HC.out _).mono ?_
    rintro e W2 ⟨rfl, hb2⟩
    have HK2 := Lib.hid (HK.out.below HK.out.lt hb2)
    have HB2 := Lib.hid (HBL.out.trans (hb2.mono HBL.out.size))
    clear hb2
    have c1 := (HK2.out.cell 1).trans rfl
    have c2 := (HK2.out.cell 2).trans rfl
    have c3 := (HK2.out.cell 3).trans rfl
    have c4 := (HK2.out.cell 4).trans rfl
    have c5 := (HK2.out.cell 5).trans rfl
    have c6 := (HK2.out.cell 6).trans rfl
    go_wp2_with fail
    refine (HP.out _).mono ?_
    rintro e W3 ⟨rfl, hb3⟩
    have HK3 := Lib.hid (HK2.out.below HK2.out.lt hb3)
    have HB3 := Lib.hid (HB2.out.trans (hb3.mono HB2.out.size))
    clear hb3 c1 c2 c3 c4 c5 c6
    have q1 := ld_rcR HK3.out rfl
    have c0 := (HK3.out.cell 0).trans rfl
    go_wp2_with (with_reducible refine wpList_load_var _ _ (by with_unfolding_all rfl) q1 ?_)
    refine (HL.out _).mono ?_
    rintro e W4 ⟨A, N, ca, rfl, hown, hb4⟩
    go_wp2
    go_ret2
    exact ⟨A, N, ca, rfl, own_base2 hown HB3.out.size, HB3.out.trans (hb4.mono HB3.out.size)⟩
  · have hx : wrC c = [] := if_neg h0
    rw [hx]
    have b0 : (chkH c.h != 0) = true := by rw [bne_iff_ne]; exact h0
    generalize chkH c.h = k at *
    clear h0 hx hW
    obtain ⟨⟨mm, ⟨y, mo, dd, hh, mi, s⟩, sum, p, z, nm⟩, kd, o⟩ := c
    unfold rcV rcC at *
    unfold hdV hdC at *
    dsimp only at *
    go_enter Tryd.func10, Tryd.ntmps10
    go_wp2_with fail
    refine (HC.out _).mono ?_
    rintro e W2 ⟨rfl, hb2⟩
    go_wp2
    go_ret2
    exact ⟨none, 0, 0, rfl, World.ownsRow_nil _ _ _ _, HBL.out.trans (hb2.mono HBL.out.size)⟩
end Go.Proofs.YtacllgglpjdobaaDoor
