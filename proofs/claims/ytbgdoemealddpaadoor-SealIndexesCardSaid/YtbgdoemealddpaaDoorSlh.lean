/-
  SEALS: the document's Write. No conditions.
-/
import Derived.Test.YtbgdoemealddpaaDoorSlg
namespace Go.Proofs.YtbgdoemealddpaaDoor
open Go.RowKit
set_option maxRecDepth 100000
set_option linter.unusedVariables false

/-- two rows that are laid one after the other, as numbers and sizes -/
theorem slNum_c (P : List (Nat × Nat)) (hP : NsOk P) (n : Nat) (hn : P.length = n) (hn1 : n ≤ 100) (C D : Array Value) (hC : C = ((P.map fun p => (p.1 : Int)).map (Value.int .u64)).toArray) (hD : D = ((P.map fun p => (p.2 : Int)).map (Value.int .i64)).toArray) (T S : TypeId) (w : World) (a b : Nat) (ha : a = w.heap.size) (hb : b = w.heap.size + 1) (ca cb : Nat) :
    Calls Tryd.prog 30 #[.slice (some ⟨a, 0, none⟩) n ca, .slice (some ⟨b, 0, none⟩) n cb] ((w.alloc (.cells C T)).alloc (.cells D S)) fun e w' => ∃ A c N, e = .returned (.slice A N c) ∧ w'.ownsRow w.heap.size 5 1 (.slice A N c) N (cs (nsB P)) ∧ N = nsN P ∧ Below w.heap.size w w' := by
  have h1 := (Below.refl w.heap.size w).alloc (Nat.le_refl _) (.cells C T)
  have h2 := h1.alloc (by simp) (.cells D S)
  have b1 := (Blk.new w T C).below (by simp) ((Below.refl (w.alloc (.cells C T)).heap.size _).alloc (Nat.le_refl _) (.cells D S))
  have b2 := Blk.new (w.alloc (.cells C T)) S D
  have e2 : (w.alloc (.cells C T)).heap.size = w.heap.size + 1 := by simp
  rw [e2, ← hb] at b2
  rw [← ha] at b1
  have i1 := irow_blk b1 (P.map fun p => (p.1 : Int)) n hC (by rw [List.length_map]; exact hn) (by unfold maxLen; omega) (by
    intro x hx
    obtain ⟨q, hq, rfl⟩ := List.mem_map.1 hx
    exact wfU64 _ (hP q hq).1)
  have i2 := irow_blk b2 (P.map fun p => (p.2 : Int)) n hD (by rw [List.length_map]; exact hn) (by unfold maxLen; omega) (by
    intro x hx
    obtain ⟨q, hq, rfl⟩ := List.mem_map.1 hx
    exact wfI _ (by have := (hP q hq).2; omega))
  refine (RNumbers_c _ n ca _ n cb P hP (by omega) _ i1 i2).mono ?_
  rintro e w3 ⟨A, c, N, rfl, hown, hN, hb3⟩
  exact ⟨A, c, N, rfl, own_base2 hown (by simp; omega), hN, Below.then_ h2 hb3⟩
theorem Join2S_c {w : World} {A B : Option Addr} {a b ca cb : Nat} {la lb : List F} (hA : RowIn w A a ca la) (hB : RowIn w B b cb lb) (h1 : a ≤ 1000000) (h2 : b ≤ 1000000) (T : TypeId) (g : Nat) (hg : g = w.heap.size) :
    Calls Tryd.prog 29 #[.slice (some ⟨g, 0, none⟩) 2 2] (w.alloc (.cells #[.slice A a ca, .slice B b cb] T)) fun e w' => ∃ E N c, e = .returned (.slice E N c) ∧ w'.ownsRow w.heap.size 5 1 (.slice E N c) N (cs (la ++ lb)) ∧ N = a + b ∧ Below w.heap.size w w' := by
  subst hg
  have hM := rows_lit (w := w) (n := 2) (RA := fun r => if r = 0 then A else B) (RL := fun r => if r = 0 then a else b) (RC := fun r => if r = 0 then ca else cb) (R := fun r => if r = 0 then la else lb) (fun r hr => by
    rcases (show r = 0 ∨ r = 1 by omega) with rfl | rfl
    · exact hA
    · exact hB) #[.slice A a ca, .slice B b cb] (fun r hr => by
    rcases (show r = 0 ∨ r = 1 by omega) with rfl | rfl <;> rfl) T (by unfold maxLen; omega)
  refine (Join_c hM (by omega) (fun r hr => by
    rcases (show r = 0 ∨ r = 1 by omega) with rfl | rfl
    · show a ≤ _; omega
    · show b ≤ _; omega)).mono ?_
  rintro e w' ⟨g, c, rfl, hown, hb⟩
  have hj : joinTo (fun r => if r = 0 then la else lb) 2 = la ++ lb := by
    show (([] ++ la) ++ lb) = _
    rw [List.nil_append]
  have hl : lenTo (fun r => if r = 0 then a else b) 2 = a + b := by
    show ((0 + a) + b) = _
    omega
  rw [hj] at hown
  have hba := (Below.refl w.heap.size w).alloc (Nat.le_refl _) (.cells #[.slice A a ca, .slice B b cb] T)
  exact ⟨_, _, c, rfl, own_base2 hown (by simp), hl, hba.trans (hb.mono (by simp))⟩
theorem SwSt.congr {w W : World} {T : TypeId} {H : Array Value} {V : Option Addr} {N c : Nat} {Y Y' : List F} (h : SwSt w W T H V N c Y) (e : Y = Y') : SwSt w W T H V N c Y' := e ▸ h
def sg6 : List F := [ofN 70, ofN 76, ofN 82, ofN 86, ofN 1, ofN 0]
def frP (n k s b i : Nat) : List (Nat × Nat) := [(n, 2), (k, 2), (i, 2), (s, 4), (b, 4)]
theorem frB_sg (n k s b i : Nat) : sg6 ++ nsB (frP n k s b i) = frB n k s b i := by
  unfold frB frP szP
  have e : nsB [(1, 2)] = [ofN 1, ofN 0] := by decide +kernel
  have e2 : nsB (List.map (fun z => (z, 2)) [1, n, k, i]) = nsB [(1, 2)] ++ nsB [(n, 2), (k, 2), (i, 2)] := by rw [← nsB_append]; rfl
  have e3 : nsB [(n, 2), (k, 2), (i, 2), (s, 4), (b, 4)] = nsB [(n, 2), (k, 2), (i, 2)] ++ nsB (List.map (fun z => (z, 4)) [s, b]) := by rw [← nsB_append]; rfl
  rw [e2, e3, e]
  unfold sgn sg6
  simp
theorem RWrite_no {N K S B I : Int} (h : Wf4 N K S B) {w : World} {A : Option Addr} {m cap : Nat} {RA : Nat → Option Addr} {RL RC : Nat → Nat} {R : Nat → List G} (hG : GIn w A m cap RA RL RC R) (C : Option Addr) (L cc : Nat) (hL : L ≤ 9223372036854775807) (hno : slR N K S B I m RL = false ∨ ¬ (L : Int) = 8 + S) :
    Calls Tryd.prog 10 #[.agg #[.int .i64 N, .int .i64 K, .int .i64 S, .int .i64 B, .int .i64 I, .slice A m cap], .slice C L cc] w fun e w' => e = .returned (.tuple #[.slice none 0 0, .int .i64 1]) ∧ Below w.heap.size w w' := by
  have hb := (Below.refl w.heap.size w).alloc (Nat.le_refl _) (.cells #[.int .i64 N, .int .i64 K, .int .i64 S, .int .i64 B, .int .i64 I, .slice A m cap] 38)
  have hK := Blk.new w 38 #[.int .i64 N, .int .i64 K, .int .i64 S, .int .i64 B, .int .i64 I, .slice A m cap]
  have hR := RRight24_c (I := I) h (hG.below hb)
  have HB := Lib.hid hb
  have HK := Lib.hid hK
  have z0 := (HK.out.cell 0).trans (show _ = some (Value.int .i64 N) from rfl)
  have z1 := (HK.out.cell 1).trans (show _ = some (Value.int .i64 K) from rfl)
  have z2 := (HK.out.cell 2).trans (show _ = some (Value.int .i64 S) from rfl)
  have z3 := (HK.out.cell 3).trans (show _ = some (Value.int .i64 B) from rfl)
  have z4 := (HK.out.cell 4).trans (show _ = some (Value.int .i64 I) from rfl)
  have z5 := (HK.out.cell 5).trans (show _ = some (Value.slice A m cap) from rfl)
  cases hr : slR N K S B I m RL with
  | false =>
    rw [hr] at hR
    have HR := Lib.hid hR
    clear hb hK hR hr hno hG
    go_enter Tryd.func10, Tryd.ntmps10
    go_wp2_with fail
    refine HR.out.mono ?_
    rintro e W2 ⟨rfl, hb2⟩
    have HB2 := Lib.hid (HB.out.trans (hb2.mono HB.out.size))
    clear hb2
    go_wp2
    go_ret2
    exact ⟨rfl, HB2.out⟩
  | true =>
    have hne : ¬ (L : Int) = 8 + S := by
      rcases hno with e | e
      · rw [hr] at e; cases e
      · exact e
    have hr1 : right23 N K S B = true := by
      unfold slR rix at hr
      exact (Bool.and_eq_true_iff.1 (Bool.and_eq_true_iff.1 hr).1).1
    rw [hr] at hR
    have HR := Lib.hid hR
    have e0 : ((L : Int) != 8 + S) = true := by rw [bne_iff_ne]; exact hne
    have hx := of_decide_eq_true hr1
    have s1 : IntKind.i64.wrap ((8 : Int) + S) = 8 + S := IntWalk.i64_in _ (by omega)
    clear hb hK hR hr hno hG hr1 hne hx
    go_enter Tryd.func10, Tryd.ntmps10
    go_wp2_with fail
    refine HR.out.mono ?_
    rintro e W2 ⟨rfl, hb2⟩
    have HB2 := Lib.hid (HB.out.trans (hb2.mono HB.out.size))
    have HK2 := Lib.hid (HK.out.below HK.out.lt hb2)
    clear hb2 z0 z1 z2 z3 z4 z5 HK HB HR
    have z2 := (HK2.out.cell 2).trans (show _ = some (Value.int .i64 S) from rfl)
    go_wp2
    go_ret2
    exact ⟨rfl, HB2.out⟩
set_option maxHeartbeats 8000000 in
theorem RWrite_yes {n k s b i : Nat} (h : Wf4 n k s b) (hr : right23 n k s b = true) (hik : i < k) {w : World} {A : Option Addr} {m cap : Nat} {RA : Nat → Option Addr} {RL RC : Nat → Nat} {R : Nat → List G} (hG : GIn w A m cap RA RL RC R) (hm : m = n + k) (hq : ∀ r, r < m → RL r = blkN s b)
    {C : Option Addr} {L cc : Nat} {col : List F} (hC : RowIn w C L cc col) (hL : L = 8 + s) (hM : hdN n k (blkN s b) ≤ 100000) (hs : s ≤ 100000) (hq9 : blkN s b ≤ 1000) :
    Calls Tryd.prog 10 #[.agg #[.int .i64 (n : Int), .int .i64 (k : Int), .int .i64 (s : Int), .int .i64 (b : Int), .int .i64 (i : Int), .slice A m cap], .slice C L cc] w fun e w' => ∃ V c', e = .returned (.tuple #[.slice V (hdN n k (blkN s b) + L) c', .int .i64 0]) ∧ w'.ownsRow (w.heap.size + 1) 5 1 (.slice V (hdN n k (blkN s b) + L) c') (hdN n k (blkN s b) + L) (cs (slB n k s b i R m col)) ∧ Below w.heap.size w w' := by
  obtain ⟨i0, hi, hz0, hz1, hz2⟩ := info_parts info_u8
  have hx := of_decide_eq_true hr
  have hb := (Below.refl w.heap.size w).alloc (Nat.le_refl _) (.cells #[.int .i64 (n : Int), .int .i64 (k : Int), .int .i64 (s : Int), .int .i64 (b : Int), .int .i64 (i : Int), .slice A m cap] 38)
  have hK := Blk.new w 38 #[.int .i64 (n : Int), .int .i64 (k : Int), .int .i64 (s : Int), .int .i64 (b : Int), .int .i64 (i : Int), .slice A m cap]
  have hsl : slR n k s b i m RL = true := by
    unfold slR rix
    rw [hr, blk23_yes hr, unS_no hq, decide_eq_true (by omega : (0 : Int) ≤ i), decide_eq_true (by omega : (i : Int) < k), decide_eq_true (by omega : (m : Int) = n + k)]
    rfl
  have hR := RRight24_c (I := i) h (hG.below hb)
  rw [hsl] at hR
  have hn1 : 1 ≤ n := by omega
  have hnk : n + k ≤ 255 := by omega
  have hb9 : b ≤ 16777216 := by omega
  have HH : Hid (20 + smN (blkN s b) m + 4 = hdN n k (blkN s b)) := by unfold Hid; rw [hm]; exact smN_eq _ _ _
  have HQ := Lib.hid hq
  have HM : Hid (20 + smN (blkN s b) m ≤ 100000) := by unfold Hid; have := HH.out; omega
  generalize blkN s b = Q at *
  generalize hdN n k Q = H at *
  have hm9 : m ≤ 255 := by omega
  have hL9 : L ≤ 200000 := by omega
  have HR := Lib.hid hR
  have HB := Lib.hid hb
  have HK := Lib.hid hK
  have HG := Lib.hid hG
  have HC := Lib.hid hC
  have e0 : ((L : Int) != 8 + (s : Int)) = false := by rw [bne_eq_false_iff_eq]; omega
  have s1 : IntKind.i64.wrap ((8 : Int) + (s : Int)) = 8 + (s : Int) := IntWalk.i64_in _ (by omega)
  have hP : NsOk (frP n k s b i) := by
    intro p hp
    unfold two64
    simp [frP] at hp
    rcases hp with rfl | rfl | rfl | rfl | rfl <;> (simp; try omega)
  have HP := Lib.hid hP
  have HHL := Lib.hid hL
  have u1 : IntKind.u64.wrap (n : Int) = (n : Int) := by show (n : Int) % 18446744073709551616 = _; omega
  have u2 : IntKind.u64.wrap (k : Int) = (k : Int) := by show (k : Int) % 18446744073709551616 = _; omega
  have u3 : IntKind.u64.wrap (i : Int) = (i : Int) := by show (i : Int) % 18446744073709551616 = _; omega
  have u4 : IntKind.u64.wrap (s : Int) = (s : Int) := by show (s : Int) % 18446744073709551616 = _; omega
  have u5 : IntKind.u64.wrap (b : Int) = (b : Int) := by show (b : Int) % 18446744073709551616 = _; omega
  have z0 := (HK.out.cell 0).trans (show _ = some (Value.int .i64 (n : Int)) from rfl)
  have z1 := (HK.out.cell 1).trans (show _ = some (Value.int .i64 (k : Int)) from rfl)
  have z2 := (HK.out.cell 2).trans (show _ = some (Value.int .i64 (s : Int)) from rfl)
  have z3 := (HK.out.cell 3).trans (show _ = some (Value.int .i64 (b : Int)) from rfl)
  have z4 := (HK.out.cell 4).trans (show _ = some (Value.int .i64 (i : Int)) from rfl)
  have z5 := (HK.out.cell 5).trans (show _ = some (Value.slice A m cap) from rfl)
  clear hx hsl hR hb hK hG hC hL hm hr h hq hP
  go_enter Tryd.func10, Tryd.ntmps10
  go_wp2_with fail
  refine HR.out.mono ?_
  rintro e W2 ⟨rfl, hb2⟩
  have HB2 := Lib.hid (HB.out.trans (hb2.mono HB.out.size))
  have HK2 := Lib.hid (HK.out.below HK.out.lt hb2)
  clear hb2 z0 z1 z2 z3 z4 z5 HK HB HR
  have hb3 : Below W2.heap.size W2 (W2.alloc (.cells #[.int .u8 70, .int .u8 76, .int .u8 82, .int .u8 86, .int .u8 1, .int .u8 0] 5)) := (Below.refl _ _).alloc (Nat.le_refl _) _
  have HK3 := Lib.hid (HK2.out.below HK2.out.lt hb3)
  have hr6 : Row (W2.alloc (.cells #[.int .u8 70, .int .u8 76, .int .u8 82, .int .u8 86, .int .u8 1, .int .u8 0] 5)) (some ⟨W2.heap.size, 0, none⟩) 6 sg6 := row_lit W2 sg6 6 _ rfl rfl (by unfold maxLen; decide) _ rfl _
  have hlt2 := HK2.out.lt
  have HB3 := Lib.hid (HB2.out.trans (hb3.mono HB2.out.size))
  have hsz3 : (W2.alloc (.cells #[.int .u8 70, .int .u8 76, .int .u8 82, .int .u8 86, .int .u8 1, .int .u8 0] 5)).heap.size = W2.heap.size + 1 := by simp
  have y2 := (HK2.out.cell 2).trans (show _ = some (Value.int .i64 (s : Int)) from rfl)
  have z0 := (HK3.out.cell 0).trans (show _ = some (Value.int .i64 (n : Int)) from rfl)
  have z1 := (HK3.out.cell 1).trans (show _ = some (Value.int .i64 (k : Int)) from rfl)
  have z2 := (HK3.out.cell 2).trans (show _ = some (Value.int .i64 (s : Int)) from rfl)
  have z3 := (HK3.out.cell 3).trans (show _ = some (Value.int .i64 (b : Int)) from rfl)
  have z4 := (HK3.out.cell 4).trans (show _ = some (Value.int .i64 (i : Int)) from rfl)
  have HR6 := Lib.hid hr6
  have HSZ3 := Lib.hid hsz3
  clear hr6 hsz3 hb3
  go_wp2_with fail
  refine (slNum_c _ HP.out 5 rfl (by omega) _ _ rfl rfl _ _ _ _ _ (by simp) (by simp) 5 5).mono ?_
  rintro e W4 ⟨A4, c4, N4, rfl, hown4, hN4, hb4⟩
  obtain rfl : N4 = 14 := hN4.trans rfl
  clear hN4
  have HB4 := Lib.hid (HB3.out.trans (hb4.mono HB3.out.size))
  have HK4 := Lib.hid (HK3.out.below HK3.out.lt hb4)
  have HR4 := Lib.hid (RowIn.mk (HR6.out.below hb4) (Nat.le_refl 6) (by unfold maxLen; omega))
  have HO4 := Lib.hid (own_in hown4)
  have hlt4 := HK4.out.lt
  clear hb4 hown4 HK3 HB3 z0 z1 z2 z3 z4 y2
  go_wp2_with fail
  refine (Join2S_c HR4.out HO4.out (by omega) (by omega) _ _ rfl).mono ?_
  rintro e W5 ⟨V5, N5, c5, rfl, hown5, hN5, hb5⟩
  obtain rfl : N5 = 20 := hN5.trans rfl
  clear hN5
  rw [frB_sg] at hown5
  have S6 := Lib.hid (SwSt.mk (w := w) (W := W5) (T := 38) (H := #[.int .i64 (n : Int), .int .i64 (k : Int), .int .i64 (s : Int), .int .i64 (b : Int), .int .i64 (i : Int), .slice A m cap]) (V := V5) (N := 20) (c := c5) (Y := frB n k s b i) (HK4.out.below hlt4 hb5) (own_base2 hown5 (by omega)) (by have := hb5.size; omega) (HB4.out.trans (hb5.mono HB4.out.size)))
  clear hown5 hb5 HK4 HB4 HR4 HO4 HR6 HSZ3 HK2 HB2 hlt4 hlt2
  go_wp2
  go_loopw [6, 7] (fun bv iv wr => ∃ (r N c' : Nat) (V' : Option Addr), r ≤ m ∧ iv = .int .i64 r ∧ bv = .slice V' N c' ∧ Hid (N = 20 + smN Q r) ∧ N ≤ 1000000 ∧ Hid (SwSt w wr 38 #[.int .i64 (n : Int), .int .i64 (k : Int), .int .i64 (s : Int), .int .i64 (b : Int), .int .i64 (i : Int), .slice A m cap] V' N c' (frB n k s b i ++ smB R r))) (fun _ iv _ => m - (intOf iv).toNat)
  case atStart => exact ⟨0, 20, c5, V5, by omega, rfl, rfl, by unfold Hid smN; omega, by omega, by show Hid (SwSt w W5 _ _ V5 20 c5 (_ ++ [])); rw [List.append_nil]; exact S6⟩
  case round =>
    obtain ⟨r, N, c', V', hr, rfl, rfl, hN, hN9, hS⟩ := hrel
    obtain ⟨W6, hW6⟩ : ∃ W6, W6 = wr := ⟨_, rfl⟩
    subst hW6
    have z5 := (hS.out.box.cell 5).trans (show _ = some (Value.slice A m cap) from rfl)
    by_cases hlt : r < m
    · have hrm : (r : Int) < m := by omega
      have hr0 : (0 : Int) ≤ (r : Int) := by omega
      have hN2 : Hid (N + Q * 4 = 20 + smN Q (r + 1)) := by
        unfold Hid smN
        rw [hN.out, Nat.add_mul]
        unfold smN
        omega
      have hN3 : N + Q * 4 ≤ 1000000 := by
        have h1 : (r + 1) * (Q * 4) ≤ m * (Q * 4) := Nat.mul_le_mul_right _ hlt
        have h2 := HM.out
        have h3 := hN2.out
        unfold smN at h2 h3
        omega
      have hrow0 := HG.out.row r hlt
      have hq1 := HQ.out r hlt
      rw [hq1] at hrow0
      have HROW := Lib.hid hrow0
      have HQ1 := Lib.hid hq1
      have hRl : (R r).length = Q := hrow0.1
      have HRL := Lib.hid hRl
      clear hrow0 hq1 hRl
      go_wp2
      go_loopw [6, 8] (fun bv iv wr => ∃ (e M c2 : Nat) (V2 : Option Addr), e ≤ Q ∧ iv = .int .i64 e ∧ bv = .slice V2 M c2 ∧ Hid (M = N + e * 4) ∧ M ≤ 1000000 ∧ Hid (SwSt w wr 38 #[.int .i64 (n : Int), .int .i64 (k : Int), .int .i64 (s : Int), .int .i64 (b : Int), .int .i64 (i : Int), .slice A m cap] V2 M c2 ((frB n k s b i ++ smB R r) ++ nsB (szP 4 ((wsN (R r)).take e))))) (fun _ iv _ => Q - (intOf iv).toNat)
      case atStart => exact ⟨0, N, c', V', by omega, rfl, rfl, by unfold Hid; omega, hN9, by rw [List.take_zero]; show Hid (SwSt w W6 _ _ V' N c' (_ ++ [])); rw [List.append_nil]; exact hS⟩
      case round =>
        obtain ⟨e, M, c2, V2, he, rfl, rfl, hM, hM9, hT⟩ := hrel
        have hGr := HG.out.below hT.out.bel
        obtain ⟨b1, o1, hA, _, q1⟩ := hGr.at_ hlt
        rw [HQ1.out] at q1
        have y5 := (hT.out.box.cell 5).trans (show _ = some (Value.slice A m cap) from rfl)
        subst hA
        by_cases hle : e < Q
        · have heQ : (e : Int) < Q := by omega
          have he0 : (0 : Int) ≤ (e : Int) := by omega
          obtain ⟨b2, o2, hA2, _, q2⟩ := (HROW.out.below hT.out.bel).at_ hle
          rw [hA2] at q1
          have hkP : e < (wsN (R r)).length := by rw [wsN_length, HRL.out]; exact hle
          have hgg : (wsN (R r))[e] = (gg (R r) e).n := by simp [wsN, gg, HRL.out, hle]
          have hcat : Hid ((frB n k s b i ++ smB R r) ++ nsB (szP 4 ((wsN (R r)).take (e + 1))) = ((frB n k s b i ++ smB R r) ++ nsB (szP 4 ((wsN (R r)).take e))) ++ putL (gg (R r) e).n 4) := by
            unfold Hid
            rw [List.take_succ_eq_append_getElem hkP, hgg]
            unfold szP
            rw [List.map_append, nsB_append, ← List.append_assoc]
            show _ ++ (putL _ _ ++ []) = _
            rw [List.append_nil]
          have hM2 : Hid (M + 4 = N + (e + 1) * 4) := by unfold Hid; have := hM.out; omega
          have hM3 : M + 4 ≤ 1000000 := by
            have h1 := hM.out
            omega
          have hv := (gg (R r) e).lt
          generalize (gg (R r) e).n = v at *
          clear hkP hgg hGr hA2
          have uv : IntKind.u64.wrap (v : Int) = (v : Int) := by show (v : Int) % 18446744073709551616 = _; omega
          have HPut := Lib.hid (fun W => RefPut_c v (by unfold two64; omega) (4 : Int) W)
          go_wp2_with (first
            | (go_at_call 31; refine (HPut.out _).mono ?_; rintro e' w3 ⟨A3, c3, rfl, hown3, hb3⟩; rw [show heldN (4 : Int) 8 = 4 from rfl] at hown3; rw [show heldN (4 : Int) 8 = 4 from rfl]; have T3 := Lib.hid (hT.out.below hb3); have HO3 := Lib.hid (own_in hown3); clear hown3 hb3)
            | (at_builtin; refine wpList_append_row i0 hi hz0 hz1 hz2 rfl (.tmp 63) (.tmp 73) rfl (w.heap.size + 1) (.slice V2 M c2) M _ rfl T3.out.own A3 4 c3 (putL v 4) rfl HO3.out.row (by omega) T3.out.sz ?_; intro v4 w4 hL4; obtain ⟨A4, c4, rfl, hown4, hg4, hnw4⟩ := hL4; rw [← cs_append, ← hcat.out] at hown4; have T4 := Lib.hid (T3.out.low ((Below.refl _ _).grown hg4 T3.out.sz (fun k h => T3.out.own_lo k h)) hown4); clear hown4 hg4 hnw4 T3 HO3))
          go_roundw
          case rel => exact ⟨e + 1, M + 4, c4, A4, by omega, by go_num, rfl, hM2, hM3, T4⟩
          case measure => simp [intOf]; omega
        · obtain rfl : e = Q := by omega
          have ht : (wsN (R r)).take e = wsN (R r) := by rw [← HRL.out, ← wsN_length, List.take_length]
          rw [ht] at hT
          have T4 := Lib.hid (hT.out.congr (Y' := frB n k s b i ++ smB R (r + 1)) (by
            show _ = _ ++ (smB R r ++ _)
            rw [← List.append_assoc]))
          have hM4 : Hid (M = 20 + smN e (r + 1)) := by unfold Hid; rw [hM.out]; exact hN2.out
          clear hT ht
          go_wp2
          go_roundw
          case rel => exact ⟨r + 1, M, c2, V2, by omega, by go_num, rfl, hM4, hM9, T4⟩
          case measure => simp [intOf]; omega
    · obtain rfl : r = m := by omega
      have hN4 : N + 4 = H := by have h1 := HH.out; have h2 := hN.out; omega
      have S7 : Hid (SwSt w W6 _ _ V' N c' (hxB n k s b i R r)) := hS
      clear hS
      have HSum := Lib.hid (RefSum_c V' N c' (hxB n k s b i R r) W6 (Row.of_own S7.out.own))
      have HX : Hid (slB n k s b i R r col = hxB n k s b i R r ++ (putL (sum32 (hxB n k s b i R r)).n 4 ++ col)) := by
        show (_ ++ (putL _ _ ++ [])) ++ col = _
        rw [List.append_nil, List.append_assoc]
      have hv := (sum32 (hxB n k s b i R r)).lt
      generalize (sum32 (hxB n k s b i R r)).n = v at *
      have uv : IntKind.u64.wrap (v : Int) = (v : Int) := by show (v : Int) % 18446744073709551616 = _; omega
      have HPut := Lib.hid (fun W => RefPut_c v (by unfold two64; omega) (4 : Int) W)
      go_wp2_with (first
        | (go_at_call 32; refine HSum.out.mono ?_; rintro e w' ⟨rfl, rfl⟩)
        | (go_at_call 31; refine (HPut.out _).mono ?_; rintro e' w3 ⟨A3, c3, rfl, hown3, hb3⟩; rw [show heldN (4 : Int) 8 = 4 from rfl] at hown3; rw [show heldN (4 : Int) 8 = 4 from rfl]; have T3 := Lib.hid (S7.out.below hb3); have HO3 := Lib.hid (own_in hown3); clear hown3 hb3)
        | fail)
      refine (Join3_c (own_in T3.out.own) HO3.out (HC.out.below T3.out.bel) (by omega) (by omega) (by omega) _ _ rfl).mono ?_
      rintro e W9 ⟨V9, N9, c9, rfl, hown9, hN9', hb9'⟩
      obtain rfl : N9 = H + L := by omega
      clear hN9'
      rw [← HX.out] at hown9
      have hsz9 := T3.out.sz
      have HB9 := Lib.hid (T3.out.bel.trans (hb9'.mono T3.out.bel.size))
      have HO9 := Lib.hid (own_base2 hown9 hsz9)
      clear hown9 hb9'
      go_wp2
      go_ret2
      exact ⟨V9, c9, rfl, HO9.out, HB9.out⟩
end Go.Proofs.YtbgdoemealddpaaDoor
