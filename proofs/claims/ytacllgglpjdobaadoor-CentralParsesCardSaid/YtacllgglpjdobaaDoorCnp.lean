/-
  RECORDS OF THE DIRECTORY: the document's Parse of what has bytes enough (WRITTEN by wip/gen19p.py). No conditions (but for how many bytes there are).
-/
import Derived.Test.YtacllgglpjdobaaDoorCno
import Derived.Deep.Cut
import Derived.Deep.CutRange
namespace Go.Proofs.YtacllgglpjdobaaDoor
open Go.RowKit
set_option maxRecDepth 100000
set_option linter.unusedVariables false
set_option linter.unusedSimpArgs false

theorem step_store_atC {P : Program} {w : World} {ops : Array Oper} {o : Oper} {a : Act} {K : Act → World → Prop} {Q : Exit → Act → World → Prop} {E : Prop} (hgd : o.guard = none) (p x : Operand) (T : TypeId) (ho : o.op = Op.store T p x) (ad : Addr) (v : Value) (w' : World)
    (hp : a.eval p = .pointer (some ad)) (hx : a.eval x = v) (hrun : Sem.run P (storeVar T ad v) w = .ok () w') (hK : K (a.put o.dst undef) w') : if Region.wanted o (yielded ops a.tmps) = true then Oper.wp P o a w K Q else E := by
  have hw : Region.wanted o (yielded ops a.tmps) = true := by simp [Region.wanted, hgd]
  rw [if_pos hw]
  have hr : (Instr.storeAt T (.pointer (some ad)) v).run P w = .ok () w' := by
    simp only [Instr.storeAt, Instr.sureAddr, Sem.run_bind, Sem.run_pure, Result.andThen]
    exact hrun
  unfold Oper.wp
  simp [execOp, ho, hp, hx, hr, Result.andThen]
  simpa [Oper.upon] using hK
/-- a header is laid into a record's cells -/
theorem st_hdC {w : World} {g : Nat} {t : TypeId} {a0 a1 a2 a3 a4 a5 a6 a7 a8 a9 a10 a11 a12 : Value} (h : Blk w g t #[a0, a1, a2, a3, a4, a5, a6, a7, a8, a9, a10, a11, a12]) (m y mo d hh mi s sm pk sz : Int) (nm : ByteArray) :
    Sem.run Tryd.prog (storeVar 37 ⟨g, 0, none⟩ (.agg #[.int .i64 m, .int .i64 y, .int .i64 mo, .int .i64 d, .int .i64 hh, .int .i64 mi, .int .i64 s, .int .u32 sm, .int .u64 pk, .int .u64 sz, .string nm])) w = .ok () (w.setRow g #[.int .i64 m, .int .i64 y, .int .i64 mo, .int .i64 d, .int .i64 hh, .int .i64 mi, .int .i64 s, .int .u32 sm, .int .u64 pk, .int .u64 sz, .string nm, a11, a12]) := by
  have h1 := run_storeCells_at (P := Tryd.prog) g 0 t [.int .i64 m, .int .i64 y, .int .i64 mo, .int .i64 d, .int .i64 hh, .int .i64 mi, .int .i64 s, .int .u32 sm, .int .u64 pk, .int .u64 sz, .string nm] 0 _ w h (by simp) (by simp [Value.oneCell'])
  have hi := info_hdR
  cases hq : Tryd.prog.info? 37 with
  | none => simp [hq] at hi
  | some i =>
    have hs : i.size = 11 := by simpa [hq] using hi
    simp [storeVar, sizeOf, typeInfo, hq, Value.cells, hs, h1]
section
variable {l : List F} {n a b o k : Nat}
theorem RdI.miss0 (h : RdI l 0 a b o k false) (hn : n = tolC l) (g : gS l = true) (hf : ¬ k + 8 ≤ n) : RdI l 1 a b o k false := by
  have H : ¬ atL l 30 2 = ndL l := fun e1 => by
    obtain ⟨_, rfl⟩ := h.pos e1 (nd_S g)
    have hf2 := nd_fits hn e1 (nd_S g)
    rw [g] at hf2
    have e8 : q8 true = 8 := rfl
    rw [e8] at hf2
    exact hf (by show f1 l + 8 ≤ n; omega)
  exact ⟨fun e => by omega, fun _ => h.b0 (by omega), fun _ => h.o0 (by omega), h.al, h.bl, h.ol, fun e => absurd e H, fun e => absurd e H, fun e => absurd e H, fun e => absurd e H⟩
theorem RdI.miss1 (h : RdI l 1 a b o k false) (hn : n = tolC l) (g : gP l = true) (hf : ¬ k + 8 ≤ n) : RdI l 2 a b o k false := by
  have H : ¬ atL l 30 2 = ndL l := fun e1 => by
    obtain ⟨_, rfl⟩ := h.pos e1 (nd_P g)
    have hf2 := nd_fits hn e1 (nd_P g)
    rw [g] at hf2
    have e8 : q8 true = 8 := rfl
    rw [e8] at hf2
    exact hf (by show f2 l + 8 ≤ n; unfold f2; omega)
  exact ⟨fun e => by omega, fun e => by omega, fun _ => h.o0 (by omega), h.al, h.bl, h.ol, fun e => absurd e H, fun e => absurd e H, fun e => absurd e H, fun e => absurd e H⟩
theorem RdI.miss2 (h : RdI l 2 a b o k false) (hn : n = tolC l) (g : gO l = true) (hf : ¬ k + 8 ≤ n) : RdI l 3 a b o k false := by
  have H : ¬ atL l 30 2 = ndL l := fun e1 => by
    obtain ⟨_, rfl⟩ := h.pos e1 (nd_O g)
    have hf2 := nd_fits hn e1 (nd_O g)
    rw [g] at hf2
    have e8 : q8 true = 8 := rfl
    rw [e8] at hf2
    exact hf (by show f3 l + 8 ≤ n; unfold f3 f2; omega)
  exact ⟨fun e => by omega, fun e => by omega, fun e => by omega, h.al, h.bl, h.ol, fun e => absurd e H, fun e => absurd e H, fun e => absurd e H, fun e => absurd e H⟩
theorem RdI.miss3 (h : RdI l 3 a b o k false) (hn : n = tolC l) (g : gD l = true) (hf : ¬ k + 4 ≤ n) : ¬ atL l 30 2 = ndL l := fun e1 => by
  obtain ⟨_, rfl⟩ := h.pos e1 (nd_D g)
  have hf2 := nd_fits hn e1 (nd_D g)
  rw [g] at hf2
  have e4 : q4 true = 4 := rfl
  rw [e4] at hf2
  exact hf (by show f4 l + 4 ≤ n; unfold f4 f3 f2; omega)
theorem nm_ok {s : Nat} (hs : s ≤ 8) : NmV l n k s false (atL l k s) (k + s) false := ⟨atL_lt _ _ _ hs, fun _ _ => ⟨rfl, rfl, rfl⟩⟩
end
set_option maxHeartbeats 8000000 in
theorem RParseC_yes (A : Option Addr) (n c : Nat) (l : List F) (w : World) (h : RowIn w A n c l) (hn : n ≤ 1000000) (h1 : (lnW l).2 = 0) :
    Calls Tryd.prog 16 #[.slice A n c] w fun e w' => e = .returned (.tuple #[rcV (prC l).1, .int .i64 ((prC l).2.1 : Nat), .int .i64 (prC l).2.2]) ∧ Below w.heap.size w w' := by
  obtain ⟨P, hP⟩ : ∃ P, P = prC l := ⟨_, rfl⟩
  rw [← hP]
  obtain ⟨hN1, hN2, hN3, hN4⟩ := lnW_le h1
  have HPR : Hid (∀ R : Rc, (atL l 30 2 = ndL l → R = rdR l) → (cdB R (atL l 10 2) (atL l 12 2) (atL l 14 2) = l.take (lnW l).1 → P = if mthE R.h.m ≠ 0 then (rc0, 0, 43) else if ¬ okP (unSt (atL l 14 2) (atL l 12 2)) then (rc0, 0, 41) else if nokE R.h.nm ≠ 0 then (rc0, 0, nokE R.h.nm) else (mkC R (unSt (atL l 14 2) (atL l 12 2)), (lnW l).1, 0)) ∧
      (cdB R (atL l 10 2) (atL l 12 2) (atL l 14 2) ≠ l.take (lnW l).1 → P = (rc0, 0, 21))) := fun R hR => by rw [hP]; exact prC_R l R h1 hR
  have hlen : l.length = n := h.row.len
  have hle := h.le
  have ht : (lnW l).1 = 46 + atL l 28 2 + atL l 30 2 := hN3
  have HNT : Hid ((lnW l).1 = tolC l) := hN3
  have hS : (((atL l 24 4 : Nat) : Int) == 4294967295) = gS l := beq_dec _ _
  have hP_ : (((atL l 20 4 : Nat) : Int) == 4294967295) = gP l := beq_dec _ _
  have hO : (((atL l 42 4 : Nat) : Int) == 4294967295) = gO l := beq_dec _ _
  have hD : (((atL l 34 2 : Nat) : Int) == 65535) = gD l := beq_dec _ _
  have HI0 : Hid (RdI l 0 (atL l 24 4) (atL l 20 4) (atL l 42 4) (50 + atL l 28 2) false) := by
    have a1 := atL_lt4 l 24
    have a2 := atL_lt4 l 20
    have a3 := atL_lt4 l 42
    exact ⟨fun _ => rfl, fun _ => rfl, fun _ => rfl, by unfold two64; omega, by unfold two64; omega, by unfold two64; omega, fun _ e => by omega, fun _ e => by omega, fun _ e => by omega, fun _ _ => ⟨rfl, rfl⟩⟩
  have HDK : Hid (∀ a b o k sh, RdI l 3 a b o k sh → gD l = false → atL l 30 2 = ndL l → (⟨⟨(atL l 10 2 : Nat), st0, atL l 16 4, b, a, nmOf ((l.drop 46).take (atL l 28 2))⟩, atL l 34 2, o⟩ : Rc) = rdR l) := fun a b o k sh h => h.done_k
  have HDR : Hid (∀ a b o k sh v k' sh', RdI l 3 a b o k sh → gD l = true → NmV l (lnW l).1 k 4 sh v k' sh' → atL l 30 2 = ndL l → (⟨⟨(atL l 10 2 : Nat), st0, atL l 16 4, b, a, nmOf ((l.drop 46).take (atL l 28 2))⟩, v, o⟩ : Rc) = rdR l) := fun a b o k sh v k' sh' h g hv e => h.done_r hN3 g hv e
  have HDM : Hid (∀ a b o k, RdI l 3 a b o k false → gD l = true → ¬ k + 4 ≤ (lnW l).1 → ¬ atL l 30 2 = ndL l) := fun a b o k h g hf => h.miss3 hN3 g hf
  have HW : Hid (∀ (T : St) (a b o d : Nat), StW T → a < two64 → b < two64 → o < two64 → d < 4294967296 → RcW ⟨⟨(atL l 10 2 : Nat), T, atL l 16 4, b, a, nmOf ((l.drop 46).take (atL l 28 2))⟩, d, o⟩) := fun T a b o d ht h1 h2 h3 h4 =>
    ⟨⟨wfI _ (by have := atL_lt2 l 10; omega), ht, atL_lt4 l 16, h2, h1⟩, h4, h3⟩
  have hnmL : (nmOf ((l.drop 46).take (atL l 28 2))).length = atL l 28 2 := by
    show ((l.drop 46).take (atL l 28 2)).length = _
    rw [List.length_take, List.length_drop]
    omega
  obtain ⟨b, o, rfl, hbl, _⟩ := h.row.at_ (k := 0) (by omega)
  have hslc := h.slice (a := 46) (M := 46 + atL l 28 2) (by omega) (by omega)
  rw [show 46 + atL l 28 2 - 46 = atL l 28 2 by omega] at hslc
  have H := Lib.hid h
  have Ha0 : Hid (∀ W, RowIn W (some ⟨b, o, none⟩) n c l → Calls Tryd.prog 33 #[.slice (some ⟨b, o, none⟩) n c, .int .i64 0, .int .i64 4] W fun e w' => e = .returned (.int .u64 (atL l 0 4 : Nat)) ∧ W = w') := fun W h => RAtC_z _ n c l W h 0 4 _ _ rfl rfl (by omega) hn
  have Ha10 : Hid (∀ W, RowIn W (some ⟨b, o, none⟩) n c l → Calls Tryd.prog 33 #[.slice (some ⟨b, o, none⟩) n c, .int .i64 10, .int .i64 2] W fun e w' => e = .returned (.int .u64 (atL l 10 2 : Nat)) ∧ W = w') := fun W h => RAtC_z _ n c l W h 10 2 _ _ rfl rfl (by omega) hn
  have Ha12 : Hid (∀ W, RowIn W (some ⟨b, o, none⟩) n c l → Calls Tryd.prog 33 #[.slice (some ⟨b, o, none⟩) n c, .int .i64 12, .int .i64 2] W fun e w' => e = .returned (.int .u64 (atL l 12 2 : Nat)) ∧ W = w') := fun W h => RAtC_z _ n c l W h 12 2 _ _ rfl rfl (by omega) hn
  have Ha14 : Hid (∀ W, RowIn W (some ⟨b, o, none⟩) n c l → Calls Tryd.prog 33 #[.slice (some ⟨b, o, none⟩) n c, .int .i64 14, .int .i64 2] W fun e w' => e = .returned (.int .u64 (atL l 14 2 : Nat)) ∧ W = w') := fun W h => RAtC_z _ n c l W h 14 2 _ _ rfl rfl (by omega) hn
  have Ha16 : Hid (∀ W, RowIn W (some ⟨b, o, none⟩) n c l → Calls Tryd.prog 33 #[.slice (some ⟨b, o, none⟩) n c, .int .i64 16, .int .i64 4] W fun e w' => e = .returned (.int .u64 (atL l 16 4 : Nat)) ∧ W = w') := fun W h => RAtC_z _ n c l W h 16 4 _ _ rfl rfl (by omega) hn
  have Ha20 : Hid (∀ W, RowIn W (some ⟨b, o, none⟩) n c l → Calls Tryd.prog 33 #[.slice (some ⟨b, o, none⟩) n c, .int .i64 20, .int .i64 4] W fun e w' => e = .returned (.int .u64 (atL l 20 4 : Nat)) ∧ W = w') := fun W h => RAtC_z _ n c l W h 20 4 _ _ rfl rfl (by omega) hn
  have Ha24 : Hid (∀ W, RowIn W (some ⟨b, o, none⟩) n c l → Calls Tryd.prog 33 #[.slice (some ⟨b, o, none⟩) n c, .int .i64 24, .int .i64 4] W fun e w' => e = .returned (.int .u64 (atL l 24 4 : Nat)) ∧ W = w') := fun W h => RAtC_z _ n c l W h 24 4 _ _ rfl rfl (by omega) hn
  have Hk1 : Hid (∀ W, RowIn W (some ⟨b, o, none⟩) n c l → Calls Tryd.prog 33 #[.slice (some ⟨b, o, none⟩) n c, .int .i64 28, .int .i64 2] W fun e w' => e = .returned (.int .u64 (atL l 28 2 : Nat)) ∧ W = w') := fun W h => RAtC_z _ n c l W h 28 2 _ _ rfl rfl (by omega) hn
  have Hk2 : Hid (∀ W, RowIn W (some ⟨b, o, none⟩) n c l → Calls Tryd.prog 33 #[.slice (some ⟨b, o, none⟩) n c, .int .i64 30, .int .i64 2] W fun e w' => e = .returned (.int .u64 (atL l 30 2 : Nat)) ∧ W = w') := fun W h => RAtC_z _ n c l W h 30 2 _ _ rfl rfl (by omega) hn
  have Ha34 : Hid (∀ W, RowIn W (some ⟨b, o, none⟩) n c l → Calls Tryd.prog 33 #[.slice (some ⟨b, o, none⟩) n c, .int .i64 34, .int .i64 2] W fun e w' => e = .returned (.int .u64 (atL l 34 2 : Nat)) ∧ W = w') := fun W h => RAtC_z _ n c l W h 34 2 _ _ rfl rfl (by omega) hn
  have Ha42 : Hid (∀ W, RowIn W (some ⟨b, o, none⟩) n c l → Calls Tryd.prog 33 #[.slice (some ⟨b, o, none⟩) n c, .int .i64 42, .int .i64 4] W fun e w' => e = .returned (.int .u64 (atL l 42 4 : Nat)) ∧ W = w') := fun W h => RAtC_z _ n c l W h 42 4 _ _ rfl rfl (by omega) hn
  have HAT8 : Hid (∀ k, k + 8 ≤ n → ∀ W, RowIn W (some ⟨b, o, none⟩) n c l → Calls Tryd.prog 33 #[.slice (some ⟨b, o, none⟩) n c, .int .i64 (k : Nat), .int .i64 8] W fun e w' => e = .returned (.int .u64 (atL l k 8 : Nat)) ∧ W = w') := fun k hks W h => RAtC_z _ n c l W h k 8 _ _ rfl rfl hks hn
  have HAT4 : Hid (∀ k, k + 4 ≤ n → ∀ W, RowIn W (some ⟨b, o, none⟩) n c l → Calls Tryd.prog 33 #[.slice (some ⟨b, o, none⟩) n c, .int .i64 (k : Nat), .int .i64 4] W fun e w' => e = .returned (.int .u64 (atL l k 4 : Nat)) ∧ W = w') := fun k hks W h => RAtC_z _ n c l W h k 4 _ _ rfl rfl hks hn
  have bm := atL_lt2 l 10
  have bt := atL_lt2 l 12
  have bd := atL_lt2 l 14
  have bs := atL_lt4 l 16
  have bk1 := atL_lt2 l 28
  have bk2 := atL_lt2 l 30
  have b34 := atL_lt2 l 34
  have b0 : (((atL l 0 4 : Nat) : Int) != 33639248) = false := by rw [hN4]; rfl
  have HNML := Lib.hid hnmL
  have HSLC := Lib.hid hslc
  have HS := Lib.hid hS
  have HP := Lib.hid hP_
  have HO := Lib.hid hO
  have HD := Lib.hid hD
  have eS : strB ((l.drop 46).take (atL l 28 2)) = S (nmOf ((l.drop 46).take (atL l 28 2))) := strB_S (nmOf ((l.drop 46).take (atL l 28 2)))
  have HRW : Hid (∀ W, Below w.heap.size w W → RowIn W (some ⟨b, o, none⟩) n c l) := fun W hb => H.out.below hb
  clear hnmL hslc h hP hN4 hN3 h1 hS hP_ hO hD
  generalize Fa0 : atL l 0 4 = a0 at *
  have Ea0 := Lib.hid Fa0
  clear Fa0
  generalize Fa10 : atL l 10 2 = a10 at *
  have Ea10 := Lib.hid Fa10
  clear Fa10
  generalize Fa12 : atL l 12 2 = a12 at *
  have Ea12 := Lib.hid Fa12
  clear Fa12
  generalize Fa14 : atL l 14 2 = a14 at *
  have Ea14 := Lib.hid Fa14
  clear Fa14
  generalize Fa16 : atL l 16 4 = a16 at *
  have Ea16 := Lib.hid Fa16
  clear Fa16
  generalize Fa20 : atL l 20 4 = a20 at *
  have Ea20 := Lib.hid Fa20
  clear Fa20
  generalize Fa24 : atL l 24 4 = a24 at *
  have Ea24 := Lib.hid Fa24
  clear Fa24
  generalize Fk1 : atL l 28 2 = k1 at *
  have Ek1 := Lib.hid Fk1
  clear Fk1
  generalize Fk2 : atL l 30 2 = k2 at *
  have Ek2 := Lib.hid Fk2
  clear Fk2
  generalize Fa34 : atL l 34 2 = a34 at *
  have Ea34 := Lib.hid Fa34
  clear Fa34
  generalize Fa42 : atL l 42 4 = a42 at *
  have Ea42 := Lib.hid Fa42
  clear Fa42
  generalize (lnW l).1 = N at *
  generalize nmOf ((l.drop 46).take k1) = nm at *
  have ES := Lib.hid eS
  clear eS
  have HNN : Hid (N = 46 + k1 + k2) := ht
  have hNn : N ≤ n := by omega
  have i4 : ¬ (n : Int) < 4 := by omega
  have i46 : decide ((n : Int) < 46) = false := by rw [decide_eq_false_iff_not]; omega
  have i7 : ¬ (n : Int) < (46 : Int) + (k1 : Int) + (k2 : Int) := by omega
  have u1 : IntKind.i64.wrap (k1 : Int) = (k1 : Int) := IntWalk.i64_in _ (by omega)
  have u2 : IntKind.i64.wrap (k2 : Int) = (k2 : Int) := IntWalk.i64_in _ (by omega)
  have u3 : IntKind.i64.wrap (a10 : Int) = (a10 : Int) := IntWalk.i64_in _ (by omega)
  have u4 : IntKind.u32.wrap (a16 : Int) = (a16 : Int) := by show (a16 : Int) % 4294967296 = _; omega
  have u5 : IntKind.u16.wrap (a12 : Int) = (a12 : Int) := by show (a12 : Int) % 65536 = _; omega
  have u6 : IntKind.u16.wrap (a14 : Int) = (a14 : Int) := by show (a14 : Int) % 65536 = _; omega
  have u7 : IntKind.u32.wrap (a34 : Int) = (a34 : Int) := by show (a34 : Int) % 4294967296 = _; omega
  clear ht hN1 hN2
  have hk9 : N = 46 + k1 + k2 := HNN.out
  have hw1 : IntKind.i64.wrap ((46 : Int) + (k1 : Int)) = (46 : Int) + (k1 : Int) := IntWalk.i64_in _ (by omega)
  have hw2 : ((46 : Int) + (k1 : Int)).toNat - 46 = k1 := by omega
  have hw3 : (46 : Int) ≤ max ((46 : Int) + (k1 : Int)) 0 := by omega
  have i8 : (46 : Int) + (k1 : Int) ≤ (c : Int) := by omega
  have i9 : (46 : Int) ≤ (46 : Int) + (k1 : Int) := by omega
  have i0 : (0 : Int) ≤ (46 : Int) + (k1 : Int) := by omega
  clear hk9
  have HZ := Lib.hid (Blk.new w 39 z13)
  have HBL := Lib.hid ((Below.refl w.heap.size w).alloc (Nat.le_refl _) (.cells z13 39))
  have HA := Lib.hid (H.out.below ((Below.refl _ _).alloc (Nat.le_refl _) (.cells z13 39)))
  unfold z13 at HA
  have HZ1 := Lib.hid (show Blk ((w.alloc (.cells z13 39)).alloc (.cells #[.int .i64 0, .int .i64 0, .int .i64 0, .int .i64 0, .int .i64 0, .int .i64 0, .int .i64 0, .int .u32 0, .int .u64 0, .int .u64 0, .string ⟨#[]⟩, .int .u32 (a34 : Nat), .int .u64 (a42 : Nat)] 39)) w.heap.size 39 z13 from HZ.out.below HZ.out.lt ((Below.refl _ _).alloc (Nat.le_refl _) _))
  have HK1 := Lib.hid (show Blk ((w.alloc (.cells z13 39)).alloc (.cells #[.int .i64 0, .int .i64 0, .int .i64 0, .int .i64 0, .int .i64 0, .int .i64 0, .int .i64 0, .int .u32 0, .int .u64 0, .int .u64 0, .string ⟨#[]⟩, .int .u32 (a34 : Nat), .int .u64 (a42 : Nat)] 39)) (w.heap.size + 1) 39 #[.int .i64 0, .int .i64 0, .int .i64 0, .int .i64 0, .int .i64 0, .int .i64 0, .int .i64 0, .int .u32 0, .int .u64 0, .int .u64 0, .string ⟨#[]⟩, .int .u32 (a34 : Nat), .int .u64 (a42 : Nat)] from by have := Blk.new (w.alloc (.cells z13 39)) 39 #[.int .i64 0, .int .i64 0, .int .i64 0, .int .i64 0, .int .i64 0, .int .i64 0, .int .i64 0, .int .u32 0, .int .u64 0, .int .u64 0, .string ⟨#[]⟩, .int .u32 (a34 : Nat), .int .u64 (a42 : Nat)]; simp only [World.size_alloc] at this; exact this)
  have HB1 := Lib.hid (show Below w.heap.size w ((w.alloc (.cells z13 39)).alloc (.cells #[.int .i64 0, .int .i64 0, .int .i64 0, .int .i64 0, .int .i64 0, .int .i64 0, .int .i64 0, .int .u32 0, .int .u64 0, .int .u64 0, .string ⟨#[]⟩, .int .u32 (a34 : Nat), .int .u64 (a42 : Nat)] 39)) from HBL.out.alloc (by simp) _)
  unfold z13 at HZ1 HK1 HB1
  obtain ⟨T0, ok, D, T, d', t', hun, hok1, hok2, _, _, _, _, hTW, _⟩ := un_any a14 a12 bd bt
  have HOK1 := Lib.hid hok1
  have HOK2 := Lib.hid hok2
  have HU := Lib.hid (RefUnpackS_c a14 a12 bd bt)
  rw [hun] at HU
  clear hun hok1 hok2
  have HTW := Lib.hid hTW
  clear hTW
  obtain ⟨y, mo, dd, hh, mi, s⟩ := T0
  unfold stV at HU
  dsimp only at HU
  go_enter Tryd.func16, Tryd.ntmps16
  go_wp2_with (go_at_call 33; first | (with_reducible refine (Ha0.out _ HA.out).mono ?_; rintro e _ ⟨rfl, rfl⟩) | (with_reducible refine (Hk1.out _ HA.out).mono ?_; rintro e _ ⟨rfl, rfl⟩) | (with_reducible refine (Hk2.out _ HA.out).mono ?_; rintro e _ ⟨rfl, rfl⟩) | (with_reducible refine (Ha10.out _ HA.out).mono ?_; rintro e _ ⟨rfl, rfl⟩) | (with_reducible refine (Ha12.out _ HA.out).mono ?_; rintro e _ ⟨rfl, rfl⟩) | (with_reducible refine (Ha14.out _ HA.out).mono ?_; rintro e _ ⟨rfl, rfl⟩) | (with_reducible refine (Ha34.out _ HA.out).mono ?_; rintro e _ ⟨rfl, rfl⟩) | (with_reducible refine (Ha42.out _ HA.out).mono ?_; rintro e _ ⟨rfl, rfl⟩))
  refine (HU.out _).mono ?_
  rintro e W3 ⟨rfl, hb3⟩
  have hal := (Below.refl W3.heap.size W3).alloc (Nat.le_refl _) (.cells #[.int .i64 y, .int .i64 mo, .int .i64 dd, .int .i64 hh, .int .i64 mi, .int .i64 s] 23)
  have HK4 := Lib.hid ((HK1.out.below HK1.out.lt hb3).below (HK1.out.below HK1.out.lt hb3).lt hal)
  have HZ4 := Lib.hid ((HZ1.out.below HZ1.out.lt hb3).below (HZ1.out.below HZ1.out.lt hb3).lt hal)
  have HB3 := HB1.out.trans (hb3.mono HB1.out.size)
  have HB4 := Lib.hid (HB3.trans (hal.mono HB3.size))
  have HS4 := Lib.hid (Blk.new W3 23 #[.int .i64 y, .int .i64 mo, .int .i64 dd, .int .i64 hh, .int .i64 mi, .int .i64 s])
  have HG11 : Hid (w.heap.size + 1 < W3.heap.size) := (HK1.out.below HK1.out.lt hb3).lt
  clear hal hb3 HB3 HK1 HZ1 HB1
  go_upto_region 11 with fail
  generalize (W3.alloc (.cells #[.int .i64 y, .int .i64 mo, .int .i64 dd, .int .i64 hh, .int .i64 mi, .int .i64 s] 23)) = W4 at *
  generalize W3.heap.size = g11 at *
  have hg10 : w.heap.size < w.heap.size + 1 := by omega
  generalize w.heap.size + 1 = g10 at *
  have HGG := Lib.hid hg10
  clear hg10
  go_cut [12] from 16 to 79 (fun s12 wx => s12 = .bool ok ∧ Hid (Blk wx g10 39 #[.int .i64 (a10 : Nat), .int .i64 y, .int .i64 mo, .int .i64 dd, .int .i64 hh, .int .i64 mi, .int .i64 s, .int .u32 (a16 : Nat), .int .u64 (a20 : Nat), .int .u64 (a24 : Nat), .string (S nm), .int .u32 (a34 : Nat), .int .u64 (a42 : Nat)]) ∧ Hid (Blk wx w.heap.size 39 z13) ∧ Hid (Below w.heap.size w wx))
  case first =>
    have HRA := Lib.hid (HRW.out _ (below_drewL HB4.out))
    have t2 := st_hdC (show Blk W4.drew g10 39 #[.int .i64 0, .int .i64 0, .int .i64 0, .int .i64 0, .int .i64 0, .int .i64 0, .int .i64 0, .int .u32 0, .int .u64 0, .int .u64 0, .string ⟨#[]⟩, .int .u32 (a34 : Nat), .int .u64 (a42 : Nat)] from HK4.out) (a10 : Int) y mo dd hh mi s (a16 : Int) (a20 : Int) (a24 : Int) (S nm)
    have HK5 : Hid (Blk (W4.drew.setRow g10 #[.int .i64 (a10 : Nat), .int .i64 y, .int .i64 mo, .int .i64 dd, .int .i64 hh, .int .i64 mi, .int .i64 s, .int .u32 (a16 : Nat), .int .u64 (a20 : Nat), .int .u64 (a24 : Nat), .string (S nm), .int .u32 (a34 : Nat), .int .u64 (a42 : Nat)]) g10 39 #[.int .i64 (a10 : Nat), .int .i64 y, .int .i64 mo, .int .i64 dd, .int .i64 hh, .int .i64 mi, .int .i64 s, .int .u32 (a16 : Nat), .int .u64 (a20 : Nat), .int .u64 (a24 : Nat), .string (S nm), .int .u32 (a34 : Nat), .int .u64 (a42 : Nat)]) := (show Blk W4.drew g10 39 #[.int .i64 0, .int .i64 0, .int .i64 0, .int .i64 0, .int .i64 0, .int .i64 0, .int .i64 0, .int .u32 0, .int .u64 0, .int .u64 0, .string ⟨#[]⟩, .int .u32 (a34 : Nat), .int .u64 (a42 : Nat)] from HK4.out).setRow #[.int .i64 (a10 : Nat), .int .i64 y, .int .i64 mo, .int .i64 dd, .int .i64 hh, .int .i64 mi, .int .i64 s, .int .u32 (a16 : Nat), .int .u64 (a20 : Nat), .int .u64 (a24 : Nat), .string (S nm), .int .u32 (a34 : Nat), .int .u64 (a42 : Nat)]
    have HZ5 := Lib.hid ((show Blk W4.drew w.heap.size 39 z13 from HZ4.out).setRowO (g := g10) (by have := HGG.out; omega) #[.int .i64 (a10 : Nat), .int .i64 y, .int .i64 mo, .int .i64 dd, .int .i64 hh, .int .i64 mi, .int .i64 s, .int .u32 (a16 : Nat), .int .u64 (a20 : Nat), .int .u64 (a24 : Nat), .string (S nm), .int .u32 (a34 : Nat), .int .u64 (a42 : Nat)])
    have HB5 := Lib.hid (below_setRowS (below_drewL HB4.out) (show w.heap.size ≤ g10 by have := HGG.out; omega) #[.int .i64 (a10 : Nat), .int .i64 y, .int .i64 mo, .int .i64 dd, .int .i64 hh, .int .i64 mi, .int .i64 s, .int .u32 (a16 : Nat), .int .u64 (a20 : Nat), .int .u64 (a24 : Nat), .string (S nm), .int .u32 (a34 : Nat), .int .u64 (a42 : Nat)])
    have HS5 := Lib.hid ((show Blk W4.drew g11 23 #[.int .i64 y, .int .i64 mo, .int .i64 dd, .int .i64 hh, .int .i64 mi, .int .i64 s] from HS4.out).setRowO (g := g10) (by have := HG11.out; omega) #[.int .i64 (a10 : Nat), .int .i64 y, .int .i64 mo, .int .i64 dd, .int .i64 hh, .int .i64 mi, .int .i64 s, .int .u32 (a16 : Nat), .int .u64 (a20 : Nat), .int .u64 (a24 : Nat), .string (S nm), .int .u32 (a34 : Nat), .int .u64 (a42 : Nat)])
    have HSD : Hid (Blk W4.drew g11 23 #[.int .i64 y, .int .i64 mo, .int .i64 dd, .int .i64 hh, .int .i64 mi, .int .i64 s]) := HS4.out
    have e0 := HSD.out.cell 0
    have e1 := HSD.out.cell 1
    have e2 := HSD.out.cell 2
    have e3 := HSD.out.cell 3
    have e4 := HSD.out.cell 4
    have e5 := HSD.out.cell 5
    have e6 := HS5.out.cell 0
    have e7 := HS5.out.cell 1
    have e8 := HS5.out.cell 2
    have e9 := HS5.out.cell 3
    have e10 := HS5.out.cell 4
    have e11 := HS5.out.cell 5
    by_cases hc : c = 46
    · have hci : (c : Int) = 46 := by omega
      have i8c : (46 : Int) + (k1 : Int) ≤ 46 := by
        have := i8
        rw [hci] at this
        exact this
      have hsr := (HSLC.out.1 hc).row
      have HKP : Hid (∀ W, Below w.heap.size w W → Sem.run Tryd.prog (convert 31 9 (.slice (some ⟨b, o, none⟩) k1 0)) W = .ok (.string (S nm)) W) := by
        intro W hb
        rw [← ES.out]
        exact run_row_string _ (hsr.below hb)
      have kp := HKP.out _ (below_drewL HB4.out)
      have kp2 := HKP.out _ HB5.out
      have hS0 := And.intro e0 (And.intro e1 (And.intro e2 (And.intro e3 (And.intro e4 (And.intro e5 kp)))))
      have hS5 := And.intro e6 (And.intro e7 (And.intro e8 (And.intro e9 (And.intro e10 (And.intro e11 kp2)))))
      clear e0 e1 e2 e3 e4 e5 e6 e7 e8 e9 e10 e11 kp kp2 hsr HKP
      subst hc
      refine wp_region_held_drew (S := fun W' => W'.cell? ⟨g11, 0, none⟩ = some (Value.int .i64 y) ∧ W'.cell? ⟨g11, 1, none⟩ = some (Value.int .i64 mo) ∧ W'.cell? ⟨g11, 2, none⟩ = some (Value.int .i64 dd) ∧ W'.cell? ⟨g11, 3, none⟩ = some (Value.int .i64 hh) ∧ W'.cell? ⟨g11, 4, none⟩ = some (Value.int .i64 mi) ∧ W'.cell? ⟨g11, 5, none⟩ = some (Value.int .i64 s) ∧ Sem.run Tryd.prog (convert 31 9 (.slice (some ⟨b, o, none⟩) k1 0)) W' = .ok (.string (S nm)) W') (by kernel_rfl) ?_ (fun hHeld => ?_)
      · exact hS0
      refine wpAnyH_take (i := 0) (oi := { dst := some 63, op := _, type := _, pos := _, after := _, guard := _ }) (v := ?_) rfl (by kernel_rfl) (by kernel_rfl) (by kernel_rfl) (fun _ _ _ h => h) (Or.inl ⟨by rfl, ?_⟩) (by assumption) ?_
      rotate_left
      · intro w' hSw
        try dsimp only at hSw
        go_simp
        try with_reducible rfl
      try simp only [Act.put, List.setIfInBounds_toArray, List.set_cons_zero, List.set_cons_succ]
      refine wpAnyH_take (i := 1) (oi := { dst := some 64, op := _, type := _, pos := _, after := _, guard := _ }) (v := ?_) rfl (by kernel_rfl) (by kernel_rfl) (by kernel_rfl) (fun _ _ _ h => h) (Or.inl ⟨by rfl, ?_⟩) (by assumption) ?_
      rotate_left
      · intro w' hSw
        try dsimp only at hSw
        go_simp
        try with_reducible rfl
      try simp only [Act.put, List.setIfInBounds_toArray, List.set_cons_zero, List.set_cons_succ]
      refine wpAnyH_take (i := 2) (oi := { dst := some 65, op := _, type := _, pos := _, after := _, guard := _ }) (v := ?_) rfl (by kernel_rfl) (by kernel_rfl) (by kernel_rfl) (fun _ _ _ h => h) (Or.inl ⟨by rfl, ?_⟩) (by assumption) ?_
      rotate_left
      · intro w' hSw
        try dsimp only at hSw
        go_simp
        try with_reducible rfl
      try simp only [Act.put, List.setIfInBounds_toArray, List.set_cons_zero, List.set_cons_succ]
      refine wpAnyH_take (i := 3) (oi := { dst := some 66, op := _, type := _, pos := _, after := _, guard := _ }) (v := ?_) rfl (by kernel_rfl) (by kernel_rfl) (by kernel_rfl) (fun _ _ _ h => h) (Or.inl ⟨by rfl, ?_⟩) (by assumption) ?_
      rotate_left
      · intro w' hSw
        try dsimp only at hSw
        go_simp
        try with_reducible rfl
      try simp only [Act.put, List.setIfInBounds_toArray, List.set_cons_zero, List.set_cons_succ]
      refine wpAnyH_take (i := 6) (oi := { dst := some 69, op := _, type := _, pos := _, after := _, guard := _ }) (v := ?_) rfl (by kernel_rfl) (by kernel_rfl) (by kernel_rfl) (fun _ _ _ h => h) (Or.inl ⟨by rfl, ?_⟩) (by assumption) ?_
      rotate_left
      · intro w' hSw
        try dsimp only at hSw
        go_simp
        try with_reducible rfl
      try simp only [Act.put, List.setIfInBounds_toArray, List.set_cons_zero, List.set_cons_succ]
      refine wpAnyH_take (i := 8) (oi := { dst := some 71, op := _, type := _, pos := _, after := _, guard := _ }) (v := ?_) rfl (by kernel_rfl) (by kernel_rfl) (by kernel_rfl) (fun _ _ _ h => h) (Or.inl ⟨by rfl, ?_⟩) (by assumption) ?_
      rotate_left
      · intro w' hSw
        try dsimp only at hSw
        go_simp
        try with_reducible rfl
      try simp only [Act.put, List.setIfInBounds_toArray, List.set_cons_zero, List.set_cons_succ]
      refine wpAnyH_take (i := 10) (oi := { dst := some 73, op := _, type := _, pos := _, after := _, guard := _ }) (v := ?_) rfl (by kernel_rfl) (by kernel_rfl) (by kernel_rfl) (fun _ _ _ h => h) (Or.inl ⟨by rfl, ?_⟩) (by assumption) ?_
      rotate_left
      · intro w' hSw
        try dsimp only at hSw
        go_simp
        try with_reducible rfl
      try simp only [Act.put, List.setIfInBounds_toArray, List.set_cons_zero, List.set_cons_succ]
      refine wpAnyH_take (i := 11) (oi := { dst := some 74, op := _, type := _, pos := _, after := _, guard := _ }) (v := ?_) rfl (by kernel_rfl) (by kernel_rfl) (by kernel_rfl) (fun _ _ _ h => h) (Or.inl ⟨by rfl, ?_⟩) (by assumption) ?_
      rotate_left
      · intro w' hSw
        try dsimp only at hSw
        go_simp
        try with_reducible rfl
      try simp only [Act.put, List.setIfInBounds_toArray, List.set_cons_zero, List.set_cons_succ]
      refine wpAnyH_take (i := 12) (oi := { dst := some 75, op := _, type := _, pos := _, after := _, guard := _ }) (v := ?_) rfl (by kernel_rfl) (by kernel_rfl) (by kernel_rfl) (fun _ _ _ h => h) (Or.inl ⟨by rfl, ?_⟩) (by assumption) ?_
      rotate_left
      · intro w' hSw
        try dsimp only at hSw
        go_simp
        try with_reducible rfl
      try simp only [Act.put, List.setIfInBounds_toArray, List.set_cons_zero, List.set_cons_succ]
      refine wpAnyH_take (i := 13) (oi := { dst := some 76, op := _, type := _, pos := _, after := _, guard := _ }) (v := ?_) rfl (by kernel_rfl) (by kernel_rfl) (by kernel_rfl) (fun _ _ _ h => h) (Or.inl ⟨by rfl, ?_⟩) (by assumption) ?_
      rotate_left
      · intro w' hSw
        try dsimp only at hSw
        go_simp
        try with_reducible rfl
      try simp only [Act.put, List.setIfInBounds_toArray, List.set_cons_zero, List.set_cons_succ]
      refine wpAnyH_take (i := 14) (oi := { dst := some 77, op := _, type := _, pos := _, after := _, guard := _ }) (v := ?_) rfl (by kernel_rfl) (by kernel_rfl) (by kernel_rfl) (fun _ _ _ h => h) (Or.inl ⟨by rfl, ?_⟩) (by assumption) ?_
      rotate_left
      · intro w' hSw
        try dsimp only at hSw
        go_simp
        try with_reducible rfl
      try simp only [Act.put, List.setIfInBounds_toArray, List.set_cons_zero, List.set_cons_succ]
      refine wpAnyH_ready (rs := [4]) (by kernel_rfl) (by simp) ?_
      refine AllReadyH.cons (o := { dst := some 67, op := _, type := _, pos := _, after := _, guard := _ }) rfl (fun K hK => ?_) (AllReadyH.nil)
      go_simp
      go_at_call 33
      with_reducible refine (Ha16.out _ HRA.out).mono ?_
      rintro e _ ⟨rfl, rfl⟩
      try go_wp2_with fail
      refine hK.out _ _ ?_ (fun hHeld => ?_)
      · exact hS0
      clear hK K
      try simp only [Act.put, List.setIfInBounds_toArray, List.set_cons_zero, List.set_cons_succ]
      refine wpAnyH_take (i := 5) (oi := { dst := some 68, op := _, type := _, pos := _, after := _, guard := _ }) (v := ?_) rfl (by kernel_rfl) (by kernel_rfl) (by kernel_rfl) (fun _ _ _ h => h) (Or.inl ⟨by rfl, ?_⟩) (by assumption) ?_
      rotate_left
      · intro w' hSw
        try dsimp only at hSw
        go_simp
        try with_reducible rfl
      try simp only [Act.put, List.setIfInBounds_toArray, List.set_cons_zero, List.set_cons_succ]
      refine wpAnyH_ready (rs := [7]) (by kernel_rfl) (by simp) ?_
      refine AllReadyH.cons (o := { dst := some 70, op := _, type := _, pos := _, after := _, guard := _ }) rfl (fun K hK => ?_) (AllReadyH.nil)
      go_simp
      go_at_call 33
      with_reducible refine (Ha20.out _ HRA.out).mono ?_
      rintro e _ ⟨rfl, rfl⟩
      try go_wp2_with fail
      refine hK.out _ _ ?_ (fun hHeld => ?_)
      · exact hS0
      clear hK K
      try simp only [Act.put, List.setIfInBounds_toArray, List.set_cons_zero, List.set_cons_succ]
      refine wpAnyH_ready (rs := [9]) (by kernel_rfl) (by simp) ?_
      refine AllReadyH.cons (o := { dst := some 72, op := _, type := _, pos := _, after := _, guard := _ }) rfl (fun K hK => ?_) (AllReadyH.nil)
      go_simp
      go_at_call 33
      with_reducible refine (Ha24.out _ HRA.out).mono ?_
      rintro e _ ⟨rfl, rfl⟩
      try go_wp2_with fail
      refine hK.out _ _ ?_ (fun hHeld => ?_)
      · exact hS0
      clear hK K
      try simp only [Act.put, List.setIfInBounds_toArray, List.set_cons_zero, List.set_cons_succ]
      refine wpAnyH_take (i := 15) (oi := { dst := some 78, op := _, type := _, pos := _, after := _, guard := _ }) (v := ?_) rfl (by kernel_rfl) (by kernel_rfl) (by kernel_rfl) (fun _ _ _ h => h) (Or.inl ⟨by rfl, ?_⟩) (by assumption) ?_
      rotate_left
      · intro w' hSw
        try dsimp only at hSw
        go_simp
        try with_reducible rfl
      try simp only [Act.put, List.setIfInBounds_toArray, List.set_cons_zero, List.set_cons_succ]
      refine wpAnyH_take (i := 16) (oi := { dst := some 79, op := _, type := _, pos := _, after := _, guard := _ }) (v := ?_) rfl (by kernel_rfl) (by kernel_rfl) (by kernel_rfl) (fun _ _ _ h => h) (Or.inl ⟨by rfl, ?_⟩) (by assumption) ?_
      rotate_left
      · intro w' hSw
        try dsimp only at hSw
        go_simp
        try with_reducible rfl
      try simp only [Act.put, List.setIfInBounds_toArray, List.set_cons_zero, List.set_cons_succ]
      refine wpAnyH_ready (rs := [17]) (by kernel_rfl) (by simp) ?_
      refine AllReadyH.cons (o := { dst := none, op := _, type := _, pos := _, after := _, guard := _ }) rfl (fun K hK => ?_) AllReadyH.nil
      refine step_store_atC rfl (.tmp 79) (.tmp 78) 37 rfl _ _ _ (by with_unfolding_all rfl) (by with_unfolding_all rfl) t2 ?_
      refine hK.out _ _ ?_ (fun hHeld => ?_)
      · exact hS5
      clear hK K
      try simp only [Act.put, List.setIfInBounds_toArray, List.set_cons_zero, List.set_cons_succ]
      refine wpAnyH_done (by kernel_rfl) ?_ _
      go_wp2_with fail
      go_meet
      case rel => exact ⟨rfl, HK5, HZ5, HB5⟩
    · have hci : ¬ (c : Int) = 46 := by omega
      have hsr : Row w (some ⟨b, o + 46, none⟩) k1 ((l.drop 46).take k1) := by have := (HSLC.out.2 hc).row; simpa [Addr.add] using this
      have HKP : Hid (∀ W, Below w.heap.size w W → Sem.run Tryd.prog (convert 31 9 (.slice (some ⟨b, o + 46, none⟩) k1 (c - 46))) W = .ok (.string (S nm)) W) := by
        intro W hb
        rw [← ES.out]
        exact run_row_string _ (hsr.below hb)
      have kp := HKP.out _ (below_drewL HB4.out)
      have kp2 := HKP.out _ HB5.out
      have hS0 := And.intro e0 (And.intro e1 (And.intro e2 (And.intro e3 (And.intro e4 (And.intro e5 kp)))))
      have hS5 := And.intro e6 (And.intro e7 (And.intro e8 (And.intro e9 (And.intro e10 (And.intro e11 kp2)))))
      clear e0 e1 e2 e3 e4 e5 e6 e7 e8 e9 e10 e11 kp kp2 hsr HKP
      refine wp_region_held_drew (S := fun W' => W'.cell? ⟨g11, 0, none⟩ = some (Value.int .i64 y) ∧ W'.cell? ⟨g11, 1, none⟩ = some (Value.int .i64 mo) ∧ W'.cell? ⟨g11, 2, none⟩ = some (Value.int .i64 dd) ∧ W'.cell? ⟨g11, 3, none⟩ = some (Value.int .i64 hh) ∧ W'.cell? ⟨g11, 4, none⟩ = some (Value.int .i64 mi) ∧ W'.cell? ⟨g11, 5, none⟩ = some (Value.int .i64 s) ∧ Sem.run Tryd.prog (convert 31 9 (.slice (some ⟨b, o + 46, none⟩) k1 (c - 46))) W' = .ok (.string (S nm)) W') (by kernel_rfl) ?_ (fun hHeld => ?_)
      · exact hS0
      refine wpAnyH_take (i := 0) (oi := { dst := some 63, op := _, type := _, pos := _, after := _, guard := _ }) (v := ?_) rfl (by kernel_rfl) (by kernel_rfl) (by kernel_rfl) (fun _ _ _ h => h) (Or.inl ⟨by rfl, ?_⟩) (by assumption) ?_
      rotate_left
      · intro w' hSw
        try dsimp only at hSw
        go_simp
        try with_reducible rfl
      try simp only [Act.put, List.setIfInBounds_toArray, List.set_cons_zero, List.set_cons_succ]
      refine wpAnyH_take (i := 1) (oi := { dst := some 64, op := _, type := _, pos := _, after := _, guard := _ }) (v := ?_) rfl (by kernel_rfl) (by kernel_rfl) (by kernel_rfl) (fun _ _ _ h => h) (Or.inl ⟨by rfl, ?_⟩) (by assumption) ?_
      rotate_left
      · intro w' hSw
        try dsimp only at hSw
        go_simp
        try with_reducible rfl
      try simp only [Act.put, List.setIfInBounds_toArray, List.set_cons_zero, List.set_cons_succ]
      refine wpAnyH_take (i := 2) (oi := { dst := some 65, op := _, type := _, pos := _, after := _, guard := _ }) (v := ?_) rfl (by kernel_rfl) (by kernel_rfl) (by kernel_rfl) (fun _ _ _ h => h) (Or.inl ⟨by rfl, ?_⟩) (by assumption) ?_
      rotate_left
      · intro w' hSw
        try dsimp only at hSw
        go_simp
        try with_reducible rfl
      try simp only [Act.put, List.setIfInBounds_toArray, List.set_cons_zero, List.set_cons_succ]
      refine wpAnyH_take (i := 3) (oi := { dst := some 66, op := _, type := _, pos := _, after := _, guard := _ }) (v := ?_) rfl (by kernel_rfl) (by kernel_rfl) (by kernel_rfl) (fun _ _ _ h => h) (Or.inl ⟨by rfl, ?_⟩) (by assumption) ?_
      rotate_left
      · intro w' hSw
        try dsimp only at hSw
        go_simp
        try with_reducible rfl
      try simp only [Act.put, List.setIfInBounds_toArray, List.set_cons_zero, List.set_cons_succ]
      refine wpAnyH_take (i := 6) (oi := { dst := some 69, op := _, type := _, pos := _, after := _, guard := _ }) (v := ?_) rfl (by kernel_rfl) (by kernel_rfl) (by kernel_rfl) (fun _ _ _ h => h) (Or.inl ⟨by rfl, ?_⟩) (by assumption) ?_
      rotate_left
      · intro w' hSw
        try dsimp only at hSw
        go_simp
        try with_reducible rfl
      try simp only [Act.put, List.setIfInBounds_toArray, List.set_cons_zero, List.set_cons_succ]
      refine wpAnyH_take (i := 8) (oi := { dst := some 71, op := _, type := _, pos := _, after := _, guard := _ }) (v := ?_) rfl (by kernel_rfl) (by kernel_rfl) (by kernel_rfl) (fun _ _ _ h => h) (Or.inl ⟨by rfl, ?_⟩) (by assumption) ?_
      rotate_left
      · intro w' hSw
        try dsimp only at hSw
        go_simp
        try with_reducible rfl
      try simp only [Act.put, List.setIfInBounds_toArray, List.set_cons_zero, List.set_cons_succ]
      refine wpAnyH_take (i := 10) (oi := { dst := some 73, op := _, type := _, pos := _, after := _, guard := _ }) (v := ?_) rfl (by kernel_rfl) (by kernel_rfl) (by kernel_rfl) (fun _ _ _ h => h) (Or.inl ⟨by rfl, ?_⟩) (by assumption) ?_
      rotate_left
      · intro w' hSw
        try dsimp only at hSw
        go_simp
        try with_reducible rfl
      try simp only [Act.put, List.setIfInBounds_toArray, List.set_cons_zero, List.set_cons_succ]
      refine wpAnyH_take (i := 11) (oi := { dst := some 74, op := _, type := _, pos := _, after := _, guard := _ }) (v := ?_) rfl (by kernel_rfl) (by kernel_rfl) (by kernel_rfl) (fun _ _ _ h => h) (Or.inl ⟨by rfl, ?_⟩) (by assumption) ?_
      rotate_left
      · intro w' hSw
        try dsimp only at hSw
        go_simp
        try with_reducible rfl
      try simp only [Act.put, List.setIfInBounds_toArray, List.set_cons_zero, List.set_cons_succ]
      refine wpAnyH_take (i := 12) (oi := { dst := some 75, op := _, type := _, pos := _, after := _, guard := _ }) (v := ?_) rfl (by kernel_rfl) (by kernel_rfl) (by kernel_rfl) (fun _ _ _ h => h) (Or.inl ⟨by rfl, ?_⟩) (by assumption) ?_
      rotate_left
      · intro w' hSw
        try dsimp only at hSw
        go_simp
        try with_reducible rfl
      try simp only [Act.put, List.setIfInBounds_toArray, List.set_cons_zero, List.set_cons_succ]
      refine wpAnyH_take (i := 13) (oi := { dst := some 76, op := _, type := _, pos := _, after := _, guard := _ }) (v := ?_) rfl (by kernel_rfl) (by kernel_rfl) (by kernel_rfl) (fun _ _ _ h => h) (Or.inl ⟨by rfl, ?_⟩) (by assumption) ?_
      rotate_left
      · intro w' hSw
        try dsimp only at hSw
        go_simp
        try with_reducible rfl
      try simp only [Act.put, List.setIfInBounds_toArray, List.set_cons_zero, List.set_cons_succ]
      refine wpAnyH_take (i := 14) (oi := { dst := some 77, op := _, type := _, pos := _, after := _, guard := _ }) (v := ?_) rfl (by kernel_rfl) (by kernel_rfl) (by kernel_rfl) (fun _ _ _ h => h) (Or.inl ⟨by rfl, ?_⟩) (by assumption) ?_
      rotate_left
      · intro w' hSw
        try dsimp only at hSw
        go_simp
        try with_reducible rfl
      try simp only [Act.put, List.setIfInBounds_toArray, List.set_cons_zero, List.set_cons_succ]
      refine wpAnyH_ready (rs := [4]) (by kernel_rfl) (by simp) ?_
      refine AllReadyH.cons (o := { dst := some 67, op := _, type := _, pos := _, after := _, guard := _ }) rfl (fun K hK => ?_) (AllReadyH.nil)
      go_simp
      go_at_call 33
      with_reducible refine (Ha16.out _ HRA.out).mono ?_
      rintro e _ ⟨rfl, rfl⟩
      try go_wp2_with fail
      refine hK.out _ _ ?_ (fun hHeld => ?_)
      · exact hS0
      clear hK K
      try simp only [Act.put, List.setIfInBounds_toArray, List.set_cons_zero, List.set_cons_succ]
      refine wpAnyH_take (i := 5) (oi := { dst := some 68, op := _, type := _, pos := _, after := _, guard := _ }) (v := ?_) rfl (by kernel_rfl) (by kernel_rfl) (by kernel_rfl) (fun _ _ _ h => h) (Or.inl ⟨by rfl, ?_⟩) (by assumption) ?_
      rotate_left
      · intro w' hSw
        try dsimp only at hSw
        go_simp
        try with_reducible rfl
      try simp only [Act.put, List.setIfInBounds_toArray, List.set_cons_zero, List.set_cons_succ]
      refine wpAnyH_ready (rs := [7]) (by kernel_rfl) (by simp) ?_
      refine AllReadyH.cons (o := { dst := some 70, op := _, type := _, pos := _, after := _, guard := _ }) rfl (fun K hK => ?_) (AllReadyH.nil)
      go_simp
      go_at_call 33
      with_reducible refine (Ha20.out _ HRA.out).mono ?_
      rintro e _ ⟨rfl, rfl⟩
      try go_wp2_with fail
      refine hK.out _ _ ?_ (fun hHeld => ?_)
      · exact hS0
      clear hK K
      try simp only [Act.put, List.setIfInBounds_toArray, List.set_cons_zero, List.set_cons_succ]
      refine wpAnyH_ready (rs := [9]) (by kernel_rfl) (by simp) ?_
      refine AllReadyH.cons (o := { dst := some 72, op := _, type := _, pos := _, after := _, guard := _ }) rfl (fun K hK => ?_) (AllReadyH.nil)
      go_simp
      go_at_call 33
      with_reducible refine (Ha24.out _ HRA.out).mono ?_
      rintro e _ ⟨rfl, rfl⟩
      try go_wp2_with fail
      refine hK.out _ _ ?_ (fun hHeld => ?_)
      · exact hS0
      clear hK K
      try simp only [Act.put, List.setIfInBounds_toArray, List.set_cons_zero, List.set_cons_succ]
      refine wpAnyH_take (i := 15) (oi := { dst := some 78, op := _, type := _, pos := _, after := _, guard := _ }) (v := ?_) rfl (by kernel_rfl) (by kernel_rfl) (by kernel_rfl) (fun _ _ _ h => h) (Or.inl ⟨by rfl, ?_⟩) (by assumption) ?_
      rotate_left
      · intro w' hSw
        try dsimp only at hSw
        go_simp
        try with_reducible rfl
      try simp only [Act.put, List.setIfInBounds_toArray, List.set_cons_zero, List.set_cons_succ]
      refine wpAnyH_take (i := 16) (oi := { dst := some 79, op := _, type := _, pos := _, after := _, guard := _ }) (v := ?_) rfl (by kernel_rfl) (by kernel_rfl) (by kernel_rfl) (fun _ _ _ h => h) (Or.inl ⟨by rfl, ?_⟩) (by assumption) ?_
      rotate_left
      · intro w' hSw
        try dsimp only at hSw
        go_simp
        try with_reducible rfl
      try simp only [Act.put, List.setIfInBounds_toArray, List.set_cons_zero, List.set_cons_succ]
      refine wpAnyH_ready (rs := [17]) (by kernel_rfl) (by simp) ?_
      refine AllReadyH.cons (o := { dst := none, op := _, type := _, pos := _, after := _, guard := _ }) rfl (fun K hK => ?_) AllReadyH.nil
      refine step_store_atC rfl (.tmp 79) (.tmp 78) 37 rfl _ _ _ (by with_unfolding_all rfl) (by with_unfolding_all rfl) t2 ?_
      refine hK.out _ _ ?_ (fun hHeld => ?_)
      · exact hS5
      clear hK K
      try simp only [Act.put, List.setIfInBounds_toArray, List.set_cons_zero, List.set_cons_succ]
      refine wpAnyH_done (by kernel_rfl) ?_ _
      go_wp2_with fail
      go_meet
      case rel => exact ⟨rfl, HK5, HZ5, HB5⟩
  case rest =>
    clear HK4 HZ4 HB4 HS4
    obtain ⟨rfl, HK5, HZ5, HB5⟩ := hcut
    generalize wc = W5 at *
    have e50 : (50 : Int) + (k1 : Int) = ((50 + k1 : Nat) : Int) := by omega
    have e46 : (46 : Int) + (k1 : Int) + (k2 : Int) = (N : Int) := by have := HNN.out; omega
    have i50 : IntKind.i64.wrap ((50 : Int) + (k1 : Int)) = (50 : Int) + (k1 : Int) := IntWalk.i64_in _ (by omega)
    have i462 : IntKind.i64.wrap ((46 : Int) + (k1 : Int) + (k2 : Int)) = (46 : Int) + (k1 : Int) + (k2 : Int) := IntWalk.i64_in _ (by omega)
    have E50 := Lib.hid e50
    have E46 := Lib.hid e46
    clear e50 e46
    go_upto_region 14 with fail
    obtain ⟨va, hva⟩ : ∃ va, va = a24 := ⟨_, rfl⟩
    obtain ⟨vb, hvb⟩ : ∃ vb, vb = a20 := ⟨_, rfl⟩
    obtain ⟨vo, hvo⟩ : ∃ vo, vo = a42 := ⟨_, rfl⟩
    obtain ⟨k, hk⟩ : ∃ k, k = 50 + k1 := ⟨_, rfl⟩
    rw [← hva, ← hvb, ← hvo] at HK5
    have J0 : Hid (RdI l 0 va vb vo k false) := by unfold Hid; rw [hva, hvb, hvo, hk]; exact HI0.out
    have hkl : k ≤ 50 + k1 + 0 := by omega
    rw [E50.out, E46.out, ← hk]
    clear hva hvb hvo hk E50 E46 i50 i462 hw1 hw2 hw3 i7 i8 i9 i0 HI0
    -- step 0
    have X0 : Hid (va = a24) := (J0.out.a0 (by omega)).trans Ea24.out
    obtain ⟨tb, htb⟩ : ∃ tb : Bool, tb = (gS l && decide (k + 8 ≤ N)) := ⟨_, rfl⟩
    have HTB := Lib.hid htb
    clear htb
    have HJN : Hid (tb = false → RdI l 1 va vb vo k false) := by
      intro e
      rw [HTB.out] at e
      cases hg : gS l with
      | false => exact J0.out.keep0 hg
      | true =>
        rw [hg, Bool.true_and] at e
        exact J0.out.miss0 HNT.out hg (of_decide_eq_false e)
    have HJY : Hid (tb = true → k + 8 ≤ N ∧ RdI l 1 (atL l k 8) vb vo (k + 8) false) := by
      intro e
      rw [HTB.out] at e
      cases hg : gS l with
      | false => rw [hg, Bool.false_and] at e; exact absurd e (by decide)
      | true =>
        rw [hg, Bool.true_and] at e
        have hf := of_decide_eq_true e
        exact ⟨hf, J0.out.read0 HNT.out hg (nm_ok (by omega))⟩
    go_cut [95] from 88 to 95 (fun sR wx => sR = .bool tb ∧ W5 = wx)
    case first =>
      have xc := (HK5.out.cell 9).trans (show _ = some (Value.int .u64 (va : Nat)) from rfl)
      have bq : ((va : Int) == 4294967295) = gS l := by rw [X0.out]; exact HS.out
      have i8w : IntKind.i64.wrap ((k : Int) + 8) = (k : Int) + 8 := IntWalk.i64_in _ (by omega)
      cases hg : gS l with
      | false =>
        rw [hg] at bq
        have et : tb = false := by rw [HTB.out, hg]; rfl
        clear hg
        go_wp2_with fail
        go_meet
        case rel => exact ⟨by rw [et], rfl⟩
      | true =>
        rw [hg] at bq
        by_cases hf : k + 8 ≤ N
        · have et : tb = true := by rw [HTB.out, hg]; simp [hf]
          have hfi : (k : Int) + 8 ≤ (N : Int) := by omega
          clear hg hf
          go_wp2_with fail
          go_meet
          case rel => exact ⟨by rw [et], rfl⟩
        · have et : tb = false := by rw [HTB.out, hg]; simp [hf]
          have hfi : ¬ (k : Int) + 8 ≤ (N : Int) := by omega
          clear hg hf
          go_wp2_with fail
          go_meet
          case rel => exact ⟨by rw [et], rfl⟩
    case rest =>
    obtain ⟨rfl, hwc⟩ := hcut
    subst hwc
    go_upto_if 95 with fail
    go_cut [13] from 95 to 102 (fun s13 wx => ∃ (va vb vo k : Nat), s13 = .int .i64 k ∧ k ≤ 50 + k1 + 8 ∧ Hid (RdI l 1 va vb vo k false) ∧ Hid (Blk wx g10 39 #[.int .i64 (a10 : Nat), .int .i64 y, .int .i64 mo, .int .i64 dd, .int .i64 hh, .int .i64 mi, .int .i64 s, .int .u32 (a16 : Nat), .int .u64 (vb : Nat), .int .u64 (va : Nat), .string (S nm), .int .u32 (a34 : Nat), .int .u64 (vo : Nat)]) ∧ Hid (Blk wx w.heap.size 39 z13) ∧ Hid (Below w.heap.size w wx))
    case first =>
      cases tb
      case false =>
        have HJ := Lib.hid (HJN.out rfl)
        clear HJN HJY HTB
        go_wp2_with fail
        go_meet
        case rel => exact ⟨va, vb, vo, k, rfl, by omega, HJ, HK5, HZ5, HB5⟩
      case true =>
        obtain ⟨hf, hJ⟩ := HJY.out rfl
        have HJ := Lib.hid hJ
        clear hJ HJN HJY HTB
        have hkn : k + 8 ≤ n := by omega
        have i8w : IntKind.i64.wrap ((k : Int) + 8) = (k : Int) + 8 := IntWalk.i64_in _ (by omega)
        have HT := Lib.hid (HAT8.out k hkn _ (HRW.out _ HB5.out))
        generalize atL l k 8 = v at *
        have xo := (HK5.out.cell 9).trans (show _ = some (Value.int .u64 (va : Nat)) from rfl)
        have xf := HK5.out.frozen 9
        have HK6 : Hid (Blk (W5.setCell ⟨g10, 9, none⟩ (.int .u64 (v : Nat))) g10 39 #[.int .i64 (a10 : Nat), .int .i64 y, .int .i64 mo, .int .i64 dd, .int .i64 hh, .int .i64 mi, .int .i64 s, .int .u32 (a16 : Nat), .int .u64 (vb : Nat), .int .u64 (v : Nat), .string (S nm), .int .u32 (a34 : Nat), .int .u64 (vo : Nat)]) := HK5.out.set_ 9 (.int .u64 (v : Nat))
        have HZ6 := Lib.hid (HZ5.out.setOther (a := ⟨g10, 9, none⟩) (by show w.heap.size ≠ g10; have := HGG.out; omega) (.int .u64 (v : Nat)))
        have HB6 := Lib.hid (HB5.out.trans ((Out.setCell (Out.refl g10 (g10 + 1) W5) 9 (.int .u64 (v : Nat))).lowAt (show w.heap.size ≤ g10 by have := HGG.out; omega) HK5.out.lt))
        clear hf hkn
        go_wp2_with (go_at_call 33; with_reducible refine HT.out.mono ?_; rintro e _ ⟨rfl, rfl⟩)
        go_meet
        case rel => exact ⟨v, vb, vo, k + 8, by go_num, by omega, HJ, HK6, HZ6, HB6⟩
    case rest =>
    clear HJN HJY HTB X0 J0 HK5 HZ5 HB5 hkl
    obtain ⟨va, vb, vo, k, rfl, hkl, J1, HK5, HZ5, HB5⟩ := hcut
    generalize wc = W5 at *
    go_upto_region 17 with fail
    -- step 1
    have X1 : Hid (vb = a20) := (J1.out.b0 (by omega)).trans Ea20.out
    obtain ⟨tb, htb⟩ : ∃ tb : Bool, tb = (gP l && decide (k + 8 ≤ N)) := ⟨_, rfl⟩
    have HTB := Lib.hid htb
    clear htb
    have HJN : Hid (tb = false → RdI l 2 va vb vo k false) := by
      intro e
      rw [HTB.out] at e
      cases hg : gP l with
      | false => exact J1.out.keep1 hg
      | true =>
        rw [hg, Bool.true_and] at e
        exact J1.out.miss1 HNT.out hg (of_decide_eq_false e)
    have HJY : Hid (tb = true → k + 8 ≤ N ∧ RdI l 2 va (atL l k 8) vo (k + 8) false) := by
      intro e
      rw [HTB.out] at e
      cases hg : gP l with
      | false => rw [hg, Bool.false_and] at e; exact absurd e (by decide)
      | true =>
        rw [hg, Bool.true_and] at e
        have hf := of_decide_eq_true e
        exact ⟨hf, J1.out.read1 HNT.out hg (nm_ok (by omega))⟩
    go_cut [112] from 103 to 112 (fun sR wx => sR = .bool tb ∧ W5 = wx)
    case first =>
      have xc := (HK5.out.cell 8).trans (show _ = some (Value.int .u64 (vb : Nat)) from rfl)
      have bq : ((vb : Int) == 4294967295) = gP l := by rw [X1.out]; exact HP.out
      have i8w : IntKind.i64.wrap ((k : Int) + 8) = (k : Int) + 8 := IntWalk.i64_in _ (by omega)
      cases hg : gP l with
      | false =>
        rw [hg] at bq
        have et : tb = false := by rw [HTB.out, hg]; rfl
        clear hg
        go_wp2_with fail
        go_meet
        case rel => exact ⟨by rw [et], rfl⟩
      | true =>
        rw [hg] at bq
        by_cases hf : k + 8 ≤ N
        · have et : tb = true := by rw [HTB.out, hg]; simp [hf]
          have hfi : (k : Int) + 8 ≤ (N : Int) := by omega
          clear hg hf
          go_wp2_with fail
          go_meet
          case rel => exact ⟨by rw [et], rfl⟩
        · have et : tb = false := by rw [HTB.out, hg]; simp [hf]
          have hfi : ¬ (k : Int) + 8 ≤ (N : Int) := by omega
          clear hg hf
          go_wp2_with fail
          go_meet
          case rel => exact ⟨by rw [et], rfl⟩
    case rest =>
    obtain ⟨rfl, hwc⟩ := hcut
    subst hwc
    go_upto_if 112 with fail
    go_cut [13] from 112 to 119 (fun s13 wx => ∃ (va vb vo k : Nat), s13 = .int .i64 k ∧ k ≤ 50 + k1 + 16 ∧ Hid (RdI l 2 va vb vo k false) ∧ Hid (Blk wx g10 39 #[.int .i64 (a10 : Nat), .int .i64 y, .int .i64 mo, .int .i64 dd, .int .i64 hh, .int .i64 mi, .int .i64 s, .int .u32 (a16 : Nat), .int .u64 (vb : Nat), .int .u64 (va : Nat), .string (S nm), .int .u32 (a34 : Nat), .int .u64 (vo : Nat)]) ∧ Hid (Blk wx w.heap.size 39 z13) ∧ Hid (Below w.heap.size w wx))
    case first =>
      cases tb
      case false =>
        have HJ := Lib.hid (HJN.out rfl)
        clear HJN HJY HTB
        go_wp2_with fail
        go_meet
        case rel => exact ⟨va, vb, vo, k, rfl, by omega, HJ, HK5, HZ5, HB5⟩
      case true =>
        obtain ⟨hf, hJ⟩ := HJY.out rfl
        have HJ := Lib.hid hJ
        clear hJ HJN HJY HTB
        have hkn : k + 8 ≤ n := by omega
        have i8w : IntKind.i64.wrap ((k : Int) + 8) = (k : Int) + 8 := IntWalk.i64_in _ (by omega)
        have HT := Lib.hid (HAT8.out k hkn _ (HRW.out _ HB5.out))
        generalize atL l k 8 = v at *
        have xo := (HK5.out.cell 8).trans (show _ = some (Value.int .u64 (vb : Nat)) from rfl)
        have xf := HK5.out.frozen 8
        have HK6 : Hid (Blk (W5.setCell ⟨g10, 8, none⟩ (.int .u64 (v : Nat))) g10 39 #[.int .i64 (a10 : Nat), .int .i64 y, .int .i64 mo, .int .i64 dd, .int .i64 hh, .int .i64 mi, .int .i64 s, .int .u32 (a16 : Nat), .int .u64 (v : Nat), .int .u64 (va : Nat), .string (S nm), .int .u32 (a34 : Nat), .int .u64 (vo : Nat)]) := HK5.out.set_ 8 (.int .u64 (v : Nat))
        have HZ6 := Lib.hid (HZ5.out.setOther (a := ⟨g10, 8, none⟩) (by show w.heap.size ≠ g10; have := HGG.out; omega) (.int .u64 (v : Nat)))
        have HB6 := Lib.hid (HB5.out.trans ((Out.setCell (Out.refl g10 (g10 + 1) W5) 8 (.int .u64 (v : Nat))).lowAt (show w.heap.size ≤ g10 by have := HGG.out; omega) HK5.out.lt))
        clear hf hkn
        go_wp2_with (go_at_call 33; with_reducible refine HT.out.mono ?_; rintro e _ ⟨rfl, rfl⟩)
        go_meet
        case rel => exact ⟨va, v, vo, k + 8, by go_num, by omega, HJ, HK6, HZ6, HB6⟩
    case rest =>
    clear HJN HJY HTB X1 J1 HK5 HZ5 HB5 hkl
    obtain ⟨va, vb, vo, k, rfl, hkl, J2, HK5, HZ5, HB5⟩ := hcut
    generalize wc = W5 at *
    go_upto_region 20 with fail
    -- step 2
    have X2 : Hid (vo = a42) := (J2.out.o0 (by omega)).trans Ea42.out
    obtain ⟨tb, htb⟩ : ∃ tb : Bool, tb = (gO l && decide (k + 8 ≤ N)) := ⟨_, rfl⟩
    have HTB := Lib.hid htb
    clear htb
    have HJN : Hid (tb = false → RdI l 3 va vb vo k false) := by
      intro e
      rw [HTB.out] at e
      cases hg : gO l with
      | false => exact J2.out.keep2 hg
      | true =>
        rw [hg, Bool.true_and] at e
        exact J2.out.miss2 HNT.out hg (of_decide_eq_false e)
    have HJY : Hid (tb = true → k + 8 ≤ N ∧ RdI l 3 va vb (atL l k 8) (k + 8) false) := by
      intro e
      rw [HTB.out] at e
      cases hg : gO l with
      | false => rw [hg, Bool.false_and] at e; exact absurd e (by decide)
      | true =>
        rw [hg, Bool.true_and] at e
        have hf := of_decide_eq_true e
        exact ⟨hf, J2.out.read2 HNT.out hg (nm_ok (by omega))⟩
    go_cut [128] from 120 to 128 (fun sR wx => sR = .bool tb ∧ W5 = wx)
    case first =>
      have xc := (HK5.out.cell 12).trans (show _ = some (Value.int .u64 (vo : Nat)) from rfl)
      have bq : ((vo : Int) == 4294967295) = gO l := by rw [X2.out]; exact HO.out
      have i8w : IntKind.i64.wrap ((k : Int) + 8) = (k : Int) + 8 := IntWalk.i64_in _ (by omega)
      cases hg : gO l with
      | false =>
        rw [hg] at bq
        have et : tb = false := by rw [HTB.out, hg]; rfl
        clear hg
        go_wp2_with fail
        go_meet
        case rel => exact ⟨by rw [et], rfl⟩
      | true =>
        rw [hg] at bq
        by_cases hf : k + 8 ≤ N
        · have et : tb = true := by rw [HTB.out, hg]; simp [hf]
          have hfi : (k : Int) + 8 ≤ (N : Int) := by omega
          clear hg hf
          go_wp2_with fail
          go_meet
          case rel => exact ⟨by rw [et], rfl⟩
        · have et : tb = false := by rw [HTB.out, hg]; simp [hf]
          have hfi : ¬ (k : Int) + 8 ≤ (N : Int) := by omega
          clear hg hf
          go_wp2_with fail
          go_meet
          case rel => exact ⟨by rw [et], rfl⟩
    case rest =>
    obtain ⟨rfl, hwc⟩ := hcut
    subst hwc
    go_upto_if 128 with fail
    go_cut [13] from 128 to 134 (fun s13 wx => ∃ (va vb vo k : Nat), s13 = .int .i64 k ∧ k ≤ 50 + k1 + 24 ∧ Hid (RdI l 3 va vb vo k false) ∧ Hid (Blk wx g10 39 #[.int .i64 (a10 : Nat), .int .i64 y, .int .i64 mo, .int .i64 dd, .int .i64 hh, .int .i64 mi, .int .i64 s, .int .u32 (a16 : Nat), .int .u64 (vb : Nat), .int .u64 (va : Nat), .string (S nm), .int .u32 (a34 : Nat), .int .u64 (vo : Nat)]) ∧ Hid (Blk wx w.heap.size 39 z13) ∧ Hid (Below w.heap.size w wx))
    case first =>
      cases tb
      case false =>
        have HJ := Lib.hid (HJN.out rfl)
        clear HJN HJY HTB
        go_wp2_with fail
        go_meet
        case rel => exact ⟨va, vb, vo, k, rfl, by omega, HJ, HK5, HZ5, HB5⟩
      case true =>
        obtain ⟨hf, hJ⟩ := HJY.out rfl
        have HJ := Lib.hid hJ
        clear hJ HJN HJY HTB
        have hkn : k + 8 ≤ n := by omega
        have i8w : IntKind.i64.wrap ((k : Int) + 8) = (k : Int) + 8 := IntWalk.i64_in _ (by omega)
        have HT := Lib.hid (HAT8.out k hkn _ (HRW.out _ HB5.out))
        generalize atL l k 8 = v at *
        have xo := (HK5.out.cell 12).trans (show _ = some (Value.int .u64 (vo : Nat)) from rfl)
        have xf := HK5.out.frozen 12
        have HK6 : Hid (Blk (W5.setCell ⟨g10, 12, none⟩ (.int .u64 (v : Nat))) g10 39 #[.int .i64 (a10 : Nat), .int .i64 y, .int .i64 mo, .int .i64 dd, .int .i64 hh, .int .i64 mi, .int .i64 s, .int .u32 (a16 : Nat), .int .u64 (vb : Nat), .int .u64 (va : Nat), .string (S nm), .int .u32 (a34 : Nat), .int .u64 (v : Nat)]) := HK5.out.set_ 12 (.int .u64 (v : Nat))
        have HZ6 := Lib.hid (HZ5.out.setOther (a := ⟨g10, 12, none⟩) (by show w.heap.size ≠ g10; have := HGG.out; omega) (.int .u64 (v : Nat)))
        have HB6 := Lib.hid (HB5.out.trans ((Out.setCell (Out.refl g10 (g10 + 1) W5) 12 (.int .u64 (v : Nat))).lowAt (show w.heap.size ≤ g10 by have := HGG.out; omega) HK5.out.lt))
        clear hf hkn
        go_wp2_with (go_at_call 33; with_reducible refine HT.out.mono ?_; rintro e _ ⟨rfl, rfl⟩)
        go_meet
        case rel => exact ⟨va, vb, v, k + 8, by go_num, by omega, HJ, HK6, HZ6, HB6⟩
    case rest =>
    clear HJN HJY HTB X2 J2 HK5 HZ5 HB5 hkl
    obtain ⟨va, vb, vo, k, rfl, hkl, J3, HK5, HZ5, HB5⟩ := hcut
    generalize wc = W5 at *
    go_upto_region 23 with fail
    obtain ⟨tb, htb⟩ : ∃ tb : Bool, tb = (gD l && decide (k + 4 ≤ N)) := ⟨_, rfl⟩
    have HTB := Lib.hid htb
    clear htb
    have HJN : Hid (tb = false → k2 = ndL l → (⟨⟨(a10 : Int), st0, a16, vb, va, nm⟩, a34, vo⟩ : Rc) = rdR l) := by
      intro e e30
      rw [HTB.out] at e
      cases hg : gD l with
      | false => exact HDK.out va vb vo k false J3.out hg e30
      | true =>
        rw [hg, Bool.true_and] at e
        exact absurd e30 (HDM.out va vb vo k J3.out hg (of_decide_eq_false e))
    have HJY : Hid (tb = true → k + 4 ≤ N ∧ (k2 = ndL l → (⟨⟨(a10 : Int), st0, a16, vb, va, nm⟩, (atL l k 4), vo⟩ : Rc) = rdR l)) := by
      intro e
      rw [HTB.out] at e
      cases hg : gD l with
      | false => rw [hg, Bool.false_and] at e; exact absurd e (by decide)
      | true =>
        rw [hg, Bool.true_and] at e
        have hf := of_decide_eq_true e
        exact ⟨hf, HDR.out va vb vo k false (atL l k 4) (k + 4) false J3.out hg (nm_ok (by omega))⟩
    go_cut [143] from 135 to 143 (fun sR wx => sR = .bool tb ∧ W5 = wx)
    case first =>
      have xc := (HK5.out.cell 11).trans (show _ = some (Value.int .u32 (a34 : Nat)) from rfl)
      have bq := HD.out
      have i8w : IntKind.i64.wrap ((k : Int) + 4) = (k : Int) + 4 := IntWalk.i64_in _ (by omega)
      cases hg : gD l with
      | false =>
        rw [hg] at bq
        have et : tb = false := by rw [HTB.out, hg]; rfl
        clear hg
        go_wp2_with fail
        go_meet
        case rel => exact ⟨by rw [et], rfl⟩
      | true =>
        rw [hg] at bq
        by_cases hf : k + 4 ≤ N
        · have et : tb = true := by rw [HTB.out, hg]; simp [hf]
          have hfi : (k : Int) + 4 ≤ (N : Int) := by omega
          clear hg hf
          go_wp2_with fail
          go_meet
          case rel => exact ⟨by rw [et], rfl⟩
        · have et : tb = false := by rw [HTB.out, hg]; simp [hf]
          have hfi : ¬ (k : Int) + 4 ≤ (N : Int) := by omega
          clear hg hf
          go_wp2_with fail
          go_meet
          case rel => exact ⟨by rw [et], rfl⟩
    case rest =>
    obtain ⟨rfl, hwc⟩ := hcut
    subst hwc
    go_upto_if 143 with fail
    go_cut [13] from 143 to 148 (fun s13 wx => ∃ kd : Nat, s13 = .int .i64 k ∧ kd < 4294967296 ∧ Hid (k2 = ndL l → (⟨⟨(a10 : Int), st0, a16, vb, va, nm⟩, kd, vo⟩ : Rc) = rdR l) ∧ Hid (Blk wx g10 39 #[.int .i64 (a10 : Nat), .int .i64 y, .int .i64 mo, .int .i64 dd, .int .i64 hh, .int .i64 mi, .int .i64 s, .int .u32 (a16 : Nat), .int .u64 (vb : Nat), .int .u64 (va : Nat), .string (S nm), .int .u32 (kd : Nat), .int .u64 (vo : Nat)]) ∧ Hid (Blk wx w.heap.size 39 z13) ∧ Hid (Below w.heap.size w wx))
    case first =>
      cases tb
      case false =>
        have HJ := Lib.hid (HJN.out rfl)
        clear HJN HJY HTB
        go_wp2_with fail
        go_meet
        case rel => exact ⟨a34, rfl, by omega, HJ, HK5, HZ5, HB5⟩
      case true =>
        obtain ⟨hf, hJ⟩ := HJY.out rfl
        have HJ := Lib.hid hJ
        clear hJ HJN HJY HTB
        have hkn : k + 4 ≤ n := by omega
        have HT := Lib.hid (HAT4.out k hkn _ (HRW.out _ HB5.out))
        have hv4 := atL_lt4 l k
        generalize atL l k 4 = v at *
        have uvw : IntKind.u32.wrap (v : Int) = (v : Int) := by show (v : Int) % 4294967296 = _; omega
        have xo := (HK5.out.cell 11).trans (show _ = some (Value.int .u32 (a34 : Nat)) from rfl)
        have xf := HK5.out.frozen 11
        have HK6 : Hid (Blk (W5.setCell ⟨g10, 11, none⟩ (.int .u32 (v : Nat))) g10 39 #[.int .i64 (a10 : Nat), .int .i64 y, .int .i64 mo, .int .i64 dd, .int .i64 hh, .int .i64 mi, .int .i64 s, .int .u32 (a16 : Nat), .int .u64 (vb : Nat), .int .u64 (va : Nat), .string (S nm), .int .u32 (v : Nat), .int .u64 (vo : Nat)]) := HK5.out.set_ 11 (.int .u32 (v : Nat))
        have HZ6 := Lib.hid (HZ5.out.setOther (a := ⟨g10, 11, none⟩) (by show w.heap.size ≠ g10; have := HGG.out; omega) (.int .u32 (v : Nat)))
        have HB6 := Lib.hid (HB5.out.trans ((Out.setCell (Out.refl g10 (g10 + 1) W5) 11 (.int .u32 (v : Nat))).lowAt (show w.heap.size ≤ g10 by have := HGG.out; omega) HK5.out.lt))
        clear hf hkn
        go_wp2_with (go_at_call 33; with_reducible refine HT.out.mono ?_; rintro e _ ⟨rfl, rfl⟩)
        go_meet
        case rel => exact ⟨v, rfl, hv4, HJ, HK6, HZ6, HB6⟩
    case rest =>
    have hva := J3.out.al
    have hvb := J3.out.bl
    have hvo := J3.out.ol
    clear HJN HJY HTB J3 HK5 HZ5 HB5
    obtain ⟨kd, rfl, hkd, HRE, HKC, HZC, HBC⟩ := hcut
    generalize wc = W6 at *
    have hnn : nm.length ≤ 65535 := by have := HNML.out; omega
    have HBY : Hid (∀ W, Calls Tryd.prog 26 #[.agg #[.int .i64 (a10 : Nat), .int .i64 y, .int .i64 mo, .int .i64 dd, .int .i64 hh, .int .i64 mi, .int .i64 s, .int .u32 (a16 : Nat), .int .u64 (vb : Nat), .int .u64 (va : Nat), .string (S nm), .int .u32 (kd : Nat), .int .u64 (vo : Nat)], .int .u64 (a10 : Nat), .int .u64 (a12 : Nat), .int .u64 (a14 : Nat)] W fun e w' => ∃ A N ca, e = .returned (.slice A N ca) ∧ w'.ownsRow W.heap.size 5 1 (.slice A N ca) N (cs (cdB (⟨⟨(a10 : Int), st0, a16, vb, va, nm⟩, kd, vo⟩ : Rc) a10 a12 a14)) ∧ Below W.heap.size W w') := fun W => RBytesC_c ⟨⟨(a10 : Int), ⟨y, mo, dd, hh, mi, s⟩, a16, vb, va, nm⟩, kd, vo⟩ a10 a12 a14 bm bt bd (HW.out ⟨y, mo, dd, hh, mi, s⟩ va vb vo kd HTW.out hva hvb hvo hkd) hnn W
    have HPV := Lib.hid (HPR.out (⟨⟨(a10 : Int), st0, a16, vb, va, nm⟩, kd, vo⟩ : Rc) HRE.out)
    generalize cdB (⟨⟨(a10 : Int), st0, a16, vb, va, nm⟩, kd, vo⟩ : Rc) a10 a12 a14 = X at *
    have HNC := Lib.hid (RCheck_c nm (by omega))
    have HRT : Hid (∀ W, Below w.heap.size w W → Row W (some ⟨b, o, none⟩) N (l.take N)) := fun W hb => (H.out.below hb).row.take hNn
    have i21 : (0 : Int) ≤ (N : Int) := by omega
    have i20 : (N : Int) ≤ (c : Int) := by omega
    have HKD : Hid (Blk W6.drew g10 39 #[.int .i64 (a10 : Nat), .int .i64 y, .int .i64 mo, .int .i64 dd, .int .i64 hh, .int .i64 mi, .int .i64 s, .int .u32 (a16 : Nat), .int .u64 (vb : Nat), .int .u64 (va : Nat), .string (S nm), .int .u32 (kd : Nat), .int .u64 (vo : Nat)]) := HKC.out
    have HZD : Hid (Blk W6.drew w.heap.size 39 z13) := HZC.out
    have HBD : Hid (Below w.heap.size w W6.drew) := below_drewL HBC.out
    clear HKC HZC HBC HRE HPR HW HDK HDR HDM
    go_upto_region 25 with fail
    refine wp_region_held_drew (S := fun W' => W'.cell? ⟨g10, 0, none⟩ = some (Value.int .i64 (a10 : Nat)) ∧ W'.cell? ⟨g10, 1, none⟩ = some (Value.int .i64 y) ∧ W'.cell? ⟨g10, 2, none⟩ = some (Value.int .i64 mo) ∧ W'.cell? ⟨g10, 3, none⟩ = some (Value.int .i64 dd) ∧ W'.cell? ⟨g10, 4, none⟩ = some (Value.int .i64 hh) ∧ W'.cell? ⟨g10, 5, none⟩ = some (Value.int .i64 mi) ∧ W'.cell? ⟨g10, 6, none⟩ = some (Value.int .i64 s) ∧ W'.cell? ⟨g10, 7, none⟩ = some (Value.int .u32 (a16 : Nat)) ∧ W'.cell? ⟨g10, 8, none⟩ = some (Value.int .u64 (vb : Nat)) ∧ W'.cell? ⟨g10, 9, none⟩ = some (Value.int .u64 (va : Nat)) ∧ W'.cell? ⟨g10, 10, none⟩ = some (Value.string (S nm)) ∧ W'.cell? ⟨g10, 11, none⟩ = some (Value.int .u32 (kd : Nat)) ∧ W'.cell? ⟨g10, 12, none⟩ = some (Value.int .u64 (vo : Nat))) (by kernel_rfl) ?_ (fun hHeld => ?_)
    · exact ⟨HKD.out.cell 0, HKD.out.cell 1, HKD.out.cell 2, HKD.out.cell 3, HKD.out.cell 4, HKD.out.cell 5, HKD.out.cell 6, HKD.out.cell 7, HKD.out.cell 8, HKD.out.cell 9, HKD.out.cell 10, HKD.out.cell 11, HKD.out.cell 12⟩
    refine wpAnyH_take (i := 0) (oi := { dst := some 149, op := _, type := _, pos := _, after := _, guard := _ }) (v := ?_) rfl (by kernel_rfl) (by kernel_rfl) (by kernel_rfl) (fun _ _ _ h => h) (Or.inl ⟨by rfl, ?_⟩) (by assumption) ?_
    rotate_left
    · intro w' hSw
      try dsimp only at hSw
      go_simp
      try with_reducible rfl
    try simp only [Act.put, List.setIfInBounds_toArray, List.set_cons_zero, List.set_cons_succ]
    refine wpAnyH_take (i := 1) (oi := { dst := some 150, op := _, type := _, pos := _, after := _, guard := _ }) (v := ?_) rfl (by kernel_rfl) (by kernel_rfl) (by kernel_rfl) (fun _ _ _ h => h) (Or.inl ⟨by rfl, ?_⟩) (by assumption) ?_
    rotate_left
    · intro w' hSw
      try dsimp only at hSw
      go_simp
      try with_reducible rfl
    try simp only [Act.put, List.setIfInBounds_toArray, List.set_cons_zero, List.set_cons_succ]
    refine wpAnyH_take (i := 2) (oi := { dst := some 151, op := _, type := _, pos := _, after := _, guard := _ }) (v := ?_) rfl (by kernel_rfl) (by kernel_rfl) (by kernel_rfl) (fun _ _ _ h => h) (Or.inl ⟨by rfl, ?_⟩) (by assumption) ?_
    rotate_left
    · intro w' hSw
      try dsimp only at hSw
      go_simp
      try with_reducible rfl
    try simp only [Act.put, List.setIfInBounds_toArray, List.set_cons_zero, List.set_cons_succ]
    refine wpAnyH_take (i := 3) (oi := { dst := some 152, op := _, type := _, pos := _, after := _, guard := _ }) (v := ?_) rfl (by kernel_rfl) (by kernel_rfl) (by kernel_rfl) (fun _ _ _ h => h) (Or.inl ⟨by rfl, ?_⟩) (by assumption) ?_
    rotate_left
    · intro w' hSw
      try dsimp only at hSw
      go_simp
      try with_reducible rfl
    try simp only [Act.put, List.setIfInBounds_toArray, List.set_cons_zero, List.set_cons_succ]
    refine wpAnyH_take (i := 5) (oi := { dst := some 154, op := _, type := _, pos := _, after := _, guard := _ }) (v := ?_) rfl (by kernel_rfl) (by kernel_rfl) (by kernel_rfl) (fun _ _ _ h => h) (Or.inl ⟨by rfl, ?_⟩) (by assumption) ?_
    rotate_left
    · intro w' hSw
      try dsimp only at hSw
      go_simp
      try with_reducible rfl
    try simp only [Act.put, List.setIfInBounds_toArray, List.set_cons_zero, List.set_cons_succ]
    refine wpAnyH_take (i := 6) (oi := { dst := some 155, op := _, type := _, pos := _, after := _, guard := _ }) (v := ?_) rfl (by kernel_rfl) (by kernel_rfl) (by kernel_rfl) (fun _ _ _ h => h) (Or.inl ⟨by rfl, ?_⟩) (by assumption) ?_
    rotate_left
    · intro w' hSw
      try dsimp only at hSw
      go_simp
      try with_reducible rfl
    try simp only [Act.put, List.setIfInBounds_toArray, List.set_cons_zero, List.set_cons_succ]
    refine wpAnyH_take (i := 7) (oi := { dst := some 156, op := _, type := _, pos := _, after := _, guard := _ }) (v := ?_) rfl (by kernel_rfl) (by kernel_rfl) (by kernel_rfl) (fun _ _ _ h => h) (Or.inl ⟨by rfl, ?_⟩) (by assumption) ?_
    rotate_left
    · intro w' hSw
      try dsimp only at hSw
      go_simp
      try with_reducible rfl
    try simp only [Act.put, List.setIfInBounds_toArray, List.set_cons_zero, List.set_cons_succ]
    refine wpAnyH_ready (rs := [4]) (by kernel_rfl) (by simp) ?_
    refine AllReadyH.cons (o := { dst := some 153, op := _, type := _, pos := _, after := _, guard := _ }) rfl (fun K hK => ?_) AllReadyH.nil
    go_simp
    go_at_call 26
    refine (HBY.out _).mono ?_
    rintro e w3 ⟨A3, N3, c3, rfl, hown3, hb3⟩
    try go_wp2_with fail
    have HK6 := Lib.hid (HKD.out.below HKD.out.lt hb3)
    have HZ6 := Lib.hid (HZD.out.below HZD.out.lt hb3)
    have HB6 := Lib.hid (HBD.out.trans (hb3.mono HBD.out.size))
    have HR3 := Lib.hid (Row.of_own hown3)
    clear hb3 hown3
    refine hK.out _ _ ?_ (fun hHeld => ?_)
    · exact ⟨HK6.out.cell 0, HK6.out.cell 1, HK6.out.cell 2, HK6.out.cell 3, HK6.out.cell 4, HK6.out.cell 5, HK6.out.cell 6, HK6.out.cell 7, HK6.out.cell 8, HK6.out.cell 9, HK6.out.cell 10, HK6.out.cell 11, HK6.out.cell 12⟩
    clear hK K
    try simp only [Act.put, List.setIfInBounds_toArray, List.set_cons_zero, List.set_cons_succ]
    refine wpAnyH_ready (rs := [8]) (by kernel_rfl) (by simp) ?_
    refine AllReadyH.cons (o := { dst := some 157, op := _, type := _, pos := _, after := _, guard := _ }) rfl (fun K hK => ?_) AllReadyH.nil
    go_simp
    go_at_call 12
    refine (SameA_c _ _ _ _ _ _ _ _ _ HR3.out (HRT.out _ HB6.out)).mono ?_
    rintro e _ ⟨rfl, q, rfl⟩
    try go_wp2_with fail
    have HK7 := Lib.hid (show Blk (w3.drewN q) g10 39 _ from HK6.out)
    have HZ7 := Lib.hid (show Blk (w3.drewN q) w.heap.size 39 z13 from HZ6.out)
    have HB7 := Lib.hid (below_drewN HB6.out q)
    clear HK6 HZ6 HB6 HR3
    refine hK.out _ _ ?_ (fun hHeld => ?_)
    · exact ⟨HK7.out.cell 0, HK7.out.cell 1, HK7.out.cell 2, HK7.out.cell 3, HK7.out.cell 4, HK7.out.cell 5, HK7.out.cell 6, HK7.out.cell 7, HK7.out.cell 8, HK7.out.cell 9, HK7.out.cell 10, HK7.out.cell 11, HK7.out.cell 12⟩
    clear hK K
    try simp only [Act.put, List.setIfInBounds_toArray, List.set_cons_zero, List.set_cons_succ]
    refine wpAnyH_take (i := 9) (oi := { dst := some 158, op := _, type := _, pos := _, after := _, guard := _ }) (v := ?_) rfl (by kernel_rfl) (by kernel_rfl) (by kernel_rfl) (fun _ _ _ h => h) (Or.inl ⟨by rfl, ?_⟩) (by assumption) ?_
    rotate_left
    · intro w' hSw
      try dsimp only at hSw
      go_simp
      try with_reducible rfl
    try simp only [Act.put, List.setIfInBounds_toArray, List.set_cons_zero, List.set_cons_succ]
    refine wpAnyH_done (by kernel_rfl) ?_ _
    generalize hbq : decide (X = l.take N) = bq at *
    have HBQ := Lib.hid hbq
    clear hbq
    cases bq
    case false =>
      have hne : X ≠ l.take N := of_decide_eq_false HBQ.out
      have hv : P = (rc0, 0, 21) := HPV.out.2 hne
      clear hne
      have t2 := st_rcR HZ7.out rfl z13 rfl (by simp [z13, Value.oneCell'])
      have t3 := ld_rcR (HZ7.out.setRow z13) rfl
      have HB9 := Lib.hid (below_setRowS HB7.out (Nat.le_refl _) z13)
      go_wp2_with (with_reducible refine wpList_store_var _ _ _ (by with_unfolding_all rfl) (by with_unfolding_all rfl) t2 ?_)
      refine bodyPost_ret (v := .tuple #[.agg z13, .int .i64 0, .int .i64 21]) ?_ rfl ⟨by first | (rw [hv, rc0_z]; done) | (rw [hv, rc0_z]; rfl) | (rw [rc0_z]; done) | (rw [rc0_z]; rfl), HB9.out⟩
      rw [results_cell_tt rfl]
      simp [asAddr, Result.andThen, t3]
    case true =>
      have HE : Hid (X = l.take N) := @of_decide_eq_true (X = l.take N) _ HBQ.out
      have c0 := (HK7.out.cell 0).trans (show _ = some (Value.int .i64 (a10 : Nat)) from rfl)
      by_cases hx0 : a10 = 0
      · have b24 : ((a10 : Int) != 0) = false := by rw [hx0]; rfl
        have hm0 : mthE (a10 : Int) = 0 := by rw [hx0]; rfl
        clear hx0
        cases ok
        case false =>
          have h4 := HOK2.out rfl
          have hv : P = (rc0, 0, 41) := by rw [HPV.out.1 HE.out, if_neg (fun e => e hm0), if_pos h4]
          have t2 := st_rcR HZ7.out rfl z13 rfl (by simp [z13, Value.oneCell'])
          have t3 := ld_rcR (HZ7.out.setRow z13) rfl
          have HB9 := Lib.hid (below_setRowS HB7.out (Nat.le_refl _) z13)
          go_wp2_with (with_reducible refine wpList_store_var _ _ _ (by with_unfolding_all rfl) (by with_unfolding_all rfl) t2 ?_)
          refine bodyPost_ret (v := .tuple #[.agg z13, .int .i64 0, .int .i64 41]) ?_ rfl ⟨by first | (rw [hv, rc0_z]; done) | (rw [hv, rc0_z]; rfl) | (rw [rc0_z]; done) | (rw [rc0_z]; rfl), HB9.out⟩
          rw [results_cell_tt rfl]
          simp [asAddr, Result.andThen, t3]
        case true =>
          obtain ⟨h4, hT0⟩ := HOK1.out rfl
          have c10 := (HK7.out.cell 10).trans (show _ = some (Value.string (S nm)) from rfl)
          go_wp2_with fail
          refine (HNC.out _).mono ?_
          rintro e W8 ⟨rfl, hb8⟩
          have HB8 := Lib.hid (HB7.out.trans (hb8.mono HB7.out.size))
          have HZ8 := Lib.hid (HZ7.out.below HZ7.out.lt hb8)
          have HK8 := Lib.hid (HK7.out.below HK7.out.lt hb8)
          clear hb8 c10
          by_cases h5 : nokE nm = 0
          · have b5 : (nokE nm != 0) = false := by rw [h5]; rfl
            have hv : P = (mkC (⟨⟨(a10 : Int), st0, a16, vb, va, nm⟩, kd, vo⟩ : Rc) ⟨y, mo, dd, hh, mi, s⟩, N, 0) := by rw [HPV.out.1 HE.out, if_neg (fun e => e hm0), if_neg (fun e => e h4), if_neg (fun e => e h5), ← hT0]
            have HV := Lib.hid hv
            clear hv h5 hT0 h4 hm0
            generalize nokE nm = k5 at *
            have q1 := ld_rcR HK8.out rfl
            have t2 := st_rcR HZ8.out rfl #[.int .i64 (a10 : Nat), .int .i64 y, .int .i64 mo, .int .i64 dd, .int .i64 hh, .int .i64 mi, .int .i64 s, .int .u32 (a16 : Nat), .int .u64 (vb : Nat), .int .u64 (va : Nat), .string (S nm), .int .u32 (kd : Nat), .int .u64 (vo : Nat)] rfl (by simp [Value.oneCell'])
            have t3 := ld_rcR (HZ8.out.setRow #[.int .i64 (a10 : Nat), .int .i64 y, .int .i64 mo, .int .i64 dd, .int .i64 hh, .int .i64 mi, .int .i64 s, .int .u32 (a16 : Nat), .int .u64 (vb : Nat), .int .u64 (va : Nat), .string (S nm), .int .u32 (kd : Nat), .int .u64 (vo : Nat)]) rfl
            have HB9 := Lib.hid (below_setRowS HB8.out (Nat.le_refl _) #[.int .i64 (a10 : Nat), .int .i64 y, .int .i64 mo, .int .i64 dd, .int .i64 hh, .int .i64 mi, .int .i64 s, .int .u32 (a16 : Nat), .int .u64 (vb : Nat), .int .u64 (va : Nat), .string (S nm), .int .u32 (kd : Nat), .int .u64 (vo : Nat)])
            go_wp2_with (first
              | (with_reducible refine wpList_load_var _ _ (by with_unfolding_all rfl) q1 ?_)
              | (with_reducible refine wpList_store_var _ _ _ (by with_unfolding_all rfl) (by with_unfolding_all rfl) t2 ?_))
            refine bodyPost_ret (v := .tuple #[.agg #[.int .i64 (a10 : Nat), .int .i64 y, .int .i64 mo, .int .i64 dd, .int .i64 hh, .int .i64 mi, .int .i64 s, .int .u32 (a16 : Nat), .int .u64 (vb : Nat), .int .u64 (va : Nat), .string (S nm), .int .u32 (kd : Nat), .int .u64 (vo : Nat)], .int .i64 (N : Nat), .int .i64 0]) ?_ rfl ⟨by rw [HV.out]; rfl, HB9.out⟩
            rw [results_cell_tt rfl]
            simp [asAddr, Result.andThen, t3]
          · have b5 : (nokE nm != 0) = true := by rw [bne_iff_ne]; exact h5
            have hv : P = (rc0, 0, nokE nm) := by rw [HPV.out.1 HE.out, if_neg (fun e => e hm0), if_neg (fun e => e h4), if_pos h5]
            generalize nokE nm = k5 at *
            have t2 := st_rcR HZ8.out rfl z13 rfl (by simp [z13, Value.oneCell'])
            have t3 := ld_rcR (HZ8.out.setRow z13) rfl
            have HB9 := Lib.hid (below_setRowS HB8.out (Nat.le_refl _) z13)
            go_wp2_with (with_reducible refine wpList_store_var _ _ _ (by with_unfolding_all rfl) (by with_unfolding_all rfl) t2 ?_)
            refine bodyPost_ret (v := .tuple #[.agg z13, .int .i64 0, .int .i64 k5]) ?_ rfl ⟨by first | (rw [hv, rc0_z]; done) | (rw [hv, rc0_z]; rfl) | (rw [rc0_z]; done) | (rw [rc0_z]; rfl), HB9.out⟩
            rw [results_cell_tt rfl]
            simp [asAddr, Result.andThen, t3]
      · have b24 : ((a10 : Int) != 0) = true := by rw [bne_iff_ne]; omega
        by_cases hx8 : a10 = 8
        · have b25 : ((a10 : Int) != 8) = false := by rw [hx8]; rfl
          have hm0 : mthE (a10 : Int) = 0 := by rw [hx8]; rfl
          clear hx8 hx0
          cases ok
          case false =>
            have h4 := HOK2.out rfl
            have hv : P = (rc0, 0, 41) := by rw [HPV.out.1 HE.out, if_neg (fun e => e hm0), if_pos h4]
            have t2 := st_rcR HZ7.out rfl z13 rfl (by simp [z13, Value.oneCell'])
            have t3 := ld_rcR (HZ7.out.setRow z13) rfl
            have HB9 := Lib.hid (below_setRowS HB7.out (Nat.le_refl _) z13)
            go_wp2_with (with_reducible refine wpList_store_var _ _ _ (by with_unfolding_all rfl) (by with_unfolding_all rfl) t2 ?_)
            refine bodyPost_ret (v := .tuple #[.agg z13, .int .i64 0, .int .i64 41]) ?_ rfl ⟨by first | (rw [hv, rc0_z]; done) | (rw [hv, rc0_z]; rfl) | (rw [rc0_z]; done) | (rw [rc0_z]; rfl), HB9.out⟩
            rw [results_cell_tt rfl]
            simp [asAddr, Result.andThen, t3]
          case true =>
            obtain ⟨h4, hT0⟩ := HOK1.out rfl
            have c10 := (HK7.out.cell 10).trans (show _ = some (Value.string (S nm)) from rfl)
            go_wp2_with fail
            refine (HNC.out _).mono ?_
            rintro e W8 ⟨rfl, hb8⟩
            have HB8 := Lib.hid (HB7.out.trans (hb8.mono HB7.out.size))
            have HZ8 := Lib.hid (HZ7.out.below HZ7.out.lt hb8)
            have HK8 := Lib.hid (HK7.out.below HK7.out.lt hb8)
            clear hb8 c10
            by_cases h5 : nokE nm = 0
            · have b5 : (nokE nm != 0) = false := by rw [h5]; rfl
              have hv : P = (mkC (⟨⟨(a10 : Int), st0, a16, vb, va, nm⟩, kd, vo⟩ : Rc) ⟨y, mo, dd, hh, mi, s⟩, N, 0) := by rw [HPV.out.1 HE.out, if_neg (fun e => e hm0), if_neg (fun e => e h4), if_neg (fun e => e h5), ← hT0]
              have HV := Lib.hid hv
              clear hv h5 hT0 h4 hm0
              generalize nokE nm = k5 at *
              have q1 := ld_rcR HK8.out rfl
              have t2 := st_rcR HZ8.out rfl #[.int .i64 (a10 : Nat), .int .i64 y, .int .i64 mo, .int .i64 dd, .int .i64 hh, .int .i64 mi, .int .i64 s, .int .u32 (a16 : Nat), .int .u64 (vb : Nat), .int .u64 (va : Nat), .string (S nm), .int .u32 (kd : Nat), .int .u64 (vo : Nat)] rfl (by simp [Value.oneCell'])
              have t3 := ld_rcR (HZ8.out.setRow #[.int .i64 (a10 : Nat), .int .i64 y, .int .i64 mo, .int .i64 dd, .int .i64 hh, .int .i64 mi, .int .i64 s, .int .u32 (a16 : Nat), .int .u64 (vb : Nat), .int .u64 (va : Nat), .string (S nm), .int .u32 (kd : Nat), .int .u64 (vo : Nat)]) rfl
              have HB9 := Lib.hid (below_setRowS HB8.out (Nat.le_refl _) #[.int .i64 (a10 : Nat), .int .i64 y, .int .i64 mo, .int .i64 dd, .int .i64 hh, .int .i64 mi, .int .i64 s, .int .u32 (a16 : Nat), .int .u64 (vb : Nat), .int .u64 (va : Nat), .string (S nm), .int .u32 (kd : Nat), .int .u64 (vo : Nat)])
              go_wp2_with (first
                | (with_reducible refine wpList_load_var _ _ (by with_unfolding_all rfl) q1 ?_)
                | (with_reducible refine wpList_store_var _ _ _ (by with_unfolding_all rfl) (by with_unfolding_all rfl) t2 ?_))
              refine bodyPost_ret (v := .tuple #[.agg #[.int .i64 (a10 : Nat), .int .i64 y, .int .i64 mo, .int .i64 dd, .int .i64 hh, .int .i64 mi, .int .i64 s, .int .u32 (a16 : Nat), .int .u64 (vb : Nat), .int .u64 (va : Nat), .string (S nm), .int .u32 (kd : Nat), .int .u64 (vo : Nat)], .int .i64 (N : Nat), .int .i64 0]) ?_ rfl ⟨by rw [HV.out]; rfl, HB9.out⟩
              rw [results_cell_tt rfl]
              simp [asAddr, Result.andThen, t3]
            · have b5 : (nokE nm != 0) = true := by rw [bne_iff_ne]; exact h5
              have hv : P = (rc0, 0, nokE nm) := by rw [HPV.out.1 HE.out, if_neg (fun e => e hm0), if_neg (fun e => e h4), if_pos h5]
              generalize nokE nm = k5 at *
              have t2 := st_rcR HZ8.out rfl z13 rfl (by simp [z13, Value.oneCell'])
              have t3 := ld_rcR (HZ8.out.setRow z13) rfl
              have HB9 := Lib.hid (below_setRowS HB8.out (Nat.le_refl _) z13)
              go_wp2_with (with_reducible refine wpList_store_var _ _ _ (by with_unfolding_all rfl) (by with_unfolding_all rfl) t2 ?_)
              refine bodyPost_ret (v := .tuple #[.agg z13, .int .i64 0, .int .i64 k5]) ?_ rfl ⟨by first | (rw [hv, rc0_z]; done) | (rw [hv, rc0_z]; rfl) | (rw [rc0_z]; done) | (rw [rc0_z]; rfl), HB9.out⟩
              rw [results_cell_tt rfl]
              simp [asAddr, Result.andThen, t3]
        · have b25 : ((a10 : Int) != 8) = true := by rw [bne_iff_ne]; omega
          have hm0 : mthE (a10 : Int) ≠ 0 := by unfold mthE; rw [if_neg (by omega)]; decide
          have hv : P = (rc0, 0, 43) := by rw [HPV.out.1 HE.out, if_pos hm0]
          clear hx8 hx0
          have t2 := st_rcR HZ7.out rfl z13 rfl (by simp [z13, Value.oneCell'])
          have t3 := ld_rcR (HZ7.out.setRow z13) rfl
          have HB9 := Lib.hid (below_setRowS HB7.out (Nat.le_refl _) z13)
          go_wp2_with (with_reducible refine wpList_store_var _ _ _ (by with_unfolding_all rfl) (by with_unfolding_all rfl) t2 ?_)
          refine bodyPost_ret (v := .tuple #[.agg z13, .int .i64 0, .int .i64 43]) ?_ rfl ⟨by first | (rw [hv, rc0_z]; done) | (rw [hv, rc0_z]; rfl) | (rw [rc0_z]; done) | (rw [rc0_z]; rfl), HB9.out⟩
          rw [results_cell_tt rfl]
          simp [asAddr, Result.andThen, t3]
end Go.Proofs.YtacllgglpjdobaaDoor
