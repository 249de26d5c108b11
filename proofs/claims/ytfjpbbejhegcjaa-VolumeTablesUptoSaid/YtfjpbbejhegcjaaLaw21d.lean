/-
  LAW 21: of all tables the row, or the error, the copy, how many are there, and whether two are the same, are as said: VolumeTables. Of tables of at most 2^20 slots.
-/
import Derived.Test.YtfjpbbejhegcjaaLaw21
import Derived.Test.YtfjpbbejhegcjaaVll
import Derived.Laws.AppendOwnNone
namespace Go.Proofs.Ytfjpbbejhegcjaa
open Go.RowKit
set_option maxRecDepth 100000
set_option linter.unusedVariables false

/-- append of a table that came in to one that the call owns -/
theorem wpList_append_tab {w : World} {ops : Array Oper} {rest : List Oper} {o : Oper} {a : Act} {Q : Exit → Act → World → Prop} (hgd : o.guard = none) (s x : Operand)
    (ho : o.op = .call { callee := .builtin .append, args := #[s, x], argTypes := #[22, 22] })
    (base : Nat) (v : Value) (k : Nat) (xs : List Value) (hs : a.eval s = v) (hown : w.ownsRow base 27 2 v k xs)
    {A : Option Addr} {n cap : Nat} {TH : Nat → Bool} {RA : Nat → Option Addr} {RL RC : Nat → Nat} {R : Nat → List F} (hx : a.eval x = .slice A n cap) (hT : TIn w A n cap TH RA RL RC R) (hA : A = none → cap = 0) (hk : k ≤ 1048576) (hn : n ≤ 1048576) (hbase : base ≤ w.heap.size)
    (h : ∀ v' w', w'.ownsRow base 27 2 v' (k + n) (xs ++ tcs TH RA RL RC n) → Below base w w' → wpList Try.prog ops Q rest (a.put o.dst v') w') : wpList Try.prog ops Q (o :: rest) a w := by
  obtain ⟨i0, hi, hz0, hz1, hz2⟩ := info_parts info_sl
  cases A with
  | none =>
    have hc := hA rfl
    have h0 : n = 0 := by
      apply Decidable.byContradiction
      intro e
      obtain ⟨b, off, e2, _⟩ := hT.top (by omega)
      cases e2
    subst h0 hc
    refine wpList_append_own_none hgd s x 22 ho base 27 i0 2 Try.underlying22 hi v k xs hs hown hx (h v w ?_ ⟨rfl, rfl, rfl, Nat.le_refl _, fun _ _ => rfl⟩)
    show w.ownsRow base 27 2 v k (xs ++ [])
    rw [List.append_nil]
    exact hown
  | some ad =>
    by_cases hn0 : 0 < n
    · obtain ⟨b, off, e, _, hc⟩ := hT.top hn0
      injection e with e
      subst e
      exact wpList_append_own w hgd s x 22 ho base 27 i0 (.agg #[.bool false, .slice none 0 0]) 2 32 Try.underlying22 hi hz0 hz1 hz2 rfl (by decide) v k xs hs hown ⟨b, off, none⟩ n cap (tcs TH RA RL RC n) hx (tcs_length n) (tcs_cells hc) (tcs_one n) (by unfold maxLen; omega) (by omega) hbase fun v' w' h1 h2 _ => h v' w' h1 ((Below.refl _ _).grown h2 hbase (fun y hy => (hown.lt y hy).1))
    · obtain rfl : n = 0 := by omega
      exact wpList_append_own w hgd s x 22 ho base 27 i0 (.agg #[.bool false, .slice none 0 0]) 2 32 Try.underlying22 hi hz0 hz1 hz2 rfl (by decide) v k xs hs hown ad 0 cap [] hx rfl (fun j u hu => by simp at hu) (fun u hu => by simp at hu) (by unfold maxLen; omega) (by omega) hbase fun v' w' h1 h2 _ => h v' w' h1 ((Below.refl _ _).grown h2 hbase (fun y hy => (hown.lt y hy).1))
theorem own_blkV {w w' : World} {base n s : Nat} {e : TypeId} {v : Value} {xs : List Value} (h : w.ownsRow base e s v n xs) (hb : ∀ y, v.ownBlock = some y → w'.heap[y]? = w.heap[y]?) : w'.ownsRow base e s v n xs := by
  refine ⟨h.1, ?_⟩
  rcases h.2 with hn | ⟨g, cap, cur, rfl, hbg, hgc, rest⟩
  · exact .inl hn
  · exact .inr ⟨g, cap, cur, rfl, hbg, (hb g rfl).trans hgc, rest⟩
theorem MIn.takeV {w : World} {A : Option Addr} {n m cap : Nat} {RA : Nat → Option Addr} {RL RC : Nat → Nat} {R : Nat → List F} (h : MIn w A n cap RA RL RC R) (hm : m ≤ n) : MIn w A m cap RA RL RC R :=
  ⟨Nat.le_trans hm h.le, h.max, fun hn => by
    obtain ⟨b, off, e, hl, hc⟩ := h.top (by omega)
    exact ⟨b, off, e, hl, fun r hr => hc r (by omega)⟩, fun r hr => h.row r (by omega)⟩
theorem MIn.dropV {w : World} {g n m cap : Nat} {RA : Nat → Option Addr} {RL RC : Nat → Nat} {R : Nat → List F} (h : MIn w (some ⟨g, 0, none⟩) n cap RA RL RC R) (hm : m ≤ n) : MIn w (some ⟨g, m, none⟩) (n - m) (cap - m) (fun r => RA (m + r)) (fun r => RL (m + r)) (fun r => RC (m + r)) (fun r => R (m + r)) :=
  ⟨by have := h.le; omega, by have := h.max; omega, fun hn => by
    obtain ⟨b, off, e, hl, hc⟩ := h.top (by omega)
    injection e with e
    injection e with e1 e2
    subst e1 e2
    exact ⟨g, m, rfl, hl, fun r hr => by rw [← hc (m + r) (by omega), Nat.zero_add]⟩, fun r hr => h.row (m + r) (by omega)⟩
/-- how many rows it answers -/
def rwN (TH : Nat → Bool) (RL : Nat → Nat) (N : Nat) (n : Int) : Nat := if rwE TH RL N n = 0 then n.toNat else 0
theorem RwR.ans {w : World} {TH : Nat → Bool} {RL : Nat → Nat} {R : Nat → List F} {N : Nat} {n : Int} {e : Ending} {w' : World} (h : RwR w TH RL R N n e w') : ∃ A' c' RA' RC', e = .returned (.tuple #[.slice A' (rwN TH RL N n) c', .int .i64 (rwE TH RL N n)]) ∧ MIn w' A' (rwN TH RL N n) c' RA' RL RC' R ∧ Below w.heap.size w w' := by
  unfold rwN
  rcases h with ⟨h1, h2, h3⟩ | ⟨n0, A', c', RA', RC', h1, h2, h3, h4, h5, h6, h7⟩
  · rw [if_neg h1]
    exact ⟨none, 0, fun _ => none, fun _ => 0, h2, ⟨Nat.le_refl _, by unfold maxLen; omega, fun h => by omega, fun r hr => by omega⟩, h3⟩
  · rw [if_pos h1]
    subst h2
    rw [Int.toNat_natCast, h1]
    exact ⟨A', c', RA', RC', h5, h6, h7⟩
theorem sameT_self (n : Nat) (TH : Nat → Bool) (R : Nat → List F) : decide (sameT n TH R n TH R) = true := decide_eq_true ⟨rfl, fun r _ => by cases TH r <;> simp [sameS]⟩
/-- two tables' slots, one behind the other -/
def two21 {α : Type} (n : Nat) (f g : Nat → α) : Nat → α := fun r => if r < n then f r else g (r - n)
theorem tcs_two {TH TH' : Nat → Bool} {RA RA' : Nat → Option Addr} {RL RL' RC RC' : Nat → Nat} (n : Nat) : ∀ m, tcs TH RA RL RC n ++ tcs TH' RA' RL' RC' m = tcs (two21 n TH TH') (two21 n RA RA') (two21 n RL RL') (two21 n RC RC') (n + m) := fun m => by
  refine List.ext_getElem? fun j => ?_
  have hl1 : (tcs TH RA RL RC n).length = n * 2 := tcs_length n
  have hl2 : (tcs TH' RA' RL' RC' m).length = m * 2 := tcs_length m
  have hl3 : (tcs (two21 n TH TH') (two21 n RA RA') (two21 n RL RL') (two21 n RC RC') (n + m)).length = (n + m) * 2 := tcs_length (n + m)
  by_cases hj : j < (n + m) * 2
  · obtain ⟨r, c, rfl, hc⟩ : ∃ r c, j = r * 2 + c ∧ (c = 0 ∨ c = 1) := ⟨j / 2, j % 2, by omega, by omega⟩
    have h3 := tcs_at (TH := two21 n TH TH') (RA := two21 n RA RA') (RL := two21 n RL RL') (RC := two21 n RC RC') (n + m) r (by omega)
    by_cases hr : r < n
    · rw [List.getElem?_append_left (by omega)]
      have h1 := tcs_at (TH := TH) (RA := RA) (RL := RL) (RC := RC) n r hr
      unfold two21 at h3
      simp only [if_pos hr] at h3
      rcases hc with rfl | rfl
      · rw [Nat.add_zero, h1.1]; exact h3.1.symm
      · rw [h1.2]; exact h3.2.symm
    · rw [List.getElem?_append_right (by omega), hl1]
      have h1 := tcs_at (TH := TH') (RA := RA') (RL := RL') (RC := RC') m (r - n) (by omega)
      unfold two21 at h3
      simp only [if_neg hr] at h3
      rcases hc with rfl | rfl
      · rw [show r * 2 + 0 - n * 2 = (r - n) * 2 by omega, Nat.add_zero, h1.1]; exact h3.1.symm
      · rw [show r * 2 + 1 - n * 2 = (r - n) * 2 + 1 by omega, h1.2]; exact h3.2.symm
  · rw [List.getElem?_eq_none (by rw [List.length_append]; omega), List.getElem?_eq_none (by omega)]
set_option maxHeartbeats 8000000 in
theorem walk_VolumeTables (w : World) (A : Option Addr) (n cap : Nat) (TH : Nat → Bool) (RA : Nat → Option Addr) (RL RC : Nat → Nat) (R : Nat → List F) (h : TIn w A n cap TH RA RL RC R) (hA : A = none → cap = 0) (hn : n ≤ 1048576)
    (B : Option Addr) (m cb : Nat) (TH' : Nat → Bool) (RA' : Nat → Option Addr) (RL' RC' : Nat → Nat) (R' : Nat → List F) (h' : TIn w B m cb TH' RA' RL' RC' R') (hB : B = none → cb = 0) (hm : m ≤ 1048576) (k : Int) (hk : (Lit.int .i64 k).wf = true) :
    Calls Try.prog 3 #[.slice A n cap, .slice B m cb, .int .i64 k] w fun e w' => e = .returned (.bool true) ∧ Below w.heap.size w w' := by
  obtain ⟨i0, hi, hz0, hz1, hz2⟩ := info_parts info_bs
  obtain ⟨N, hN⟩ : ∃ N, N = n + m := ⟨_, rfl⟩
  have HN := Lib.hid hN
  have hN2 : N ≤ 2097152 := by omega
  clear hN
  go_enter Try.func3, Try.ntmps3
  go_wp2_with fail
  refine (alive21_c w).mono ?_
  rintro e w1 ⟨rfl, hb1⟩
  have HB1 := Lib.hid hb1
  have H1 := Lib.hid (h.below hb1)
  have H1' := Lib.hid (h'.below hb1)
  have HK := Lib.hid hk
  clear hb1 h h' hk
  have hba : Below w1.heap.size w1 ((w1.alloc (.cells #[] 25)).alloc (.cells #[] 27)) := ((Below.refl _ _).alloc (Nat.le_refl _) _).alloc (by simp) _
  have HBA := Lib.hid hba
  have H2 := Lib.hid (H1.out.below hba)
  clear hba
  have hmade : ((w1.alloc (.cells #[] 25)).alloc (.cells #[] 27)).ownsRow (w1.heap.size + 1) 27 2 (.slice (some ⟨w1.heap.size + 1, 0, none⟩) 0 0) 0 [] := by
    have h9 := World.ownsRow_made (e := 27) (size := 2) (base := w1.heap.size + 1) (w1.alloc (.cells #[] 25)) #[] 0 (by simp) (Nat.zero_le _) rfl
    rw [World.size_alloc] at h9
    exact h9
  have HMADE := Lib.hid hmade
  clear hmade
  go_wp2_with (first
    | ((at_builtin
        refine wpList_append_tab rfl (.tmp 20) (.tmp 21) rfl (w1.heap.size + 1) (.slice (some ⟨w1.heap.size + 1, 0, none⟩) 0 0) 0 [] rfl HMADE.out rfl H2.out hA (by omega) hn (by simp only [World.size_alloc]; omega) ?_
        intro v3 w3 hown3 hb3
        have HO3 := Lib.hid hown3
        have HB3 : Hid (Below w1.heap.size w1 w3) := HBA.out.trans (hb3.mono (by omega))
        have HP3 : Hid (Below (w1.heap.size + 1) ((w1.alloc (.cells #[] 25)).alloc (.cells #[] 27)) w3) := hb3
        have H3' := Lib.hid (H1'.out.below HB3.out)
        clear hown3 hb3 HMADE))
    | ((at_builtin
        refine wpList_append_tab rfl (.tmp 22) (.tmp 23) rfl (w1.heap.size + 1) v3 (0 + n) ([] ++ tcs TH RA RL RC n) rfl HO3.out rfl H3'.out hB (by omega) hm (by have := HP3.out.size; simp only [World.size_alloc] at this; omega) ?_
        intro v4 w4 hown4 hb4
        have HP4 : Hid (Below (w1.heap.size + 1) ((w1.alloc (.cells #[] 25)).alloc (.cells #[] 27)) w4) := HP3.out.trans hb4
        have HB4 : Hid (Below w1.heap.size w1 w4) := HB3.out.trans (hb4.mono (by omega))
        rw [List.nil_append, Nat.zero_add, tcs_two, ← HN.out] at hown4
        obtain ⟨A4, c4, rfl, ⟨hNc, hcm⟩, hA4⟩ := own_shape2 hown4
        have HO4 := Lib.hid hown4
        clear hown4 hb4 HO3 HP3 HB3)))
  have HA4 := Lib.hid hA4
  have HR4 : Hid (w4.ownsRow w1.heap.size 25 1 (.slice (some ⟨w1.heap.size, 0, none⟩) 0 0) 0 []) := own_blkV ((World.ownsRow_made (e := 25) (size := 1) w1 #[] 0 (Nat.le_refl _) (Nat.zero_le _) rfl).alloc (.cells #[] 27)) fun y hy => HP4.out.block y (by have e : w1.heap.size = y := Option.some.inj hy; omega)
  have HD4 : Hid (∀ y, (Value.slice A4 N c4).ownBlock = some y → y ≠ w1.heap.size) := fun y hy => by have := (HO4.out.lt y hy).1; omega
  clear hA4 HP4 H2 HBA
  go_loopw [7, 26] (fun v iv wr => ∃ i : Nat, i ≤ N ∧ iv = .int .i64 i ∧ ∃ g c, v = .slice (some ⟨g, 0, none⟩) i c ∧ Hid (wr.ownsRow w1.heap.size 25 1 (.slice (some ⟨g, 0, none⟩) i c) i (vsV (slV (two21 n RA RA') (two21 n RL RL') (two21 n RC RC')) i)) ∧ Hid (wr.ownsRow (w1.heap.size + 1) 27 2 (.slice A4 N c4) N (tcs (two21 n TH TH') (two21 n RA RA') (two21 n RL RL') (two21 n RC RC') N)) ∧ Hid (∀ y, (Value.slice A4 N c4).ownBlock = some y → y ≠ g) ∧ Hid (Below w1.heap.size w1 wr)) (fun _ iv _ => N - (intOf iv).toNat)
  case atStart => exact ⟨0, by omega, rfl, _, 0, rfl, HR4, HO4, HD4, HB4⟩
  case round =>
    clear HR4 HO4 HD4 HB4
    obtain ⟨i, hi', rfl, g, c, rfl, HR, HO, HD, HB⟩ := hrel
    by_cases hlt : i < N
    · have hii : (i : Int) < (N : Int) := by omega
      obtain ⟨g4, hA4, _⟩ := HA4.out (by omega)
      have hHO := HO.out
      rw [hA4] at hHO
      obtain ⟨k0, k1⟩ := tcs_at (TH := two21 n TH TH') (RA := two21 n RA RA') (RL := two21 n RL RL') (RC := two21 n RC RC') N i hlt
      have q0 := hHO.cellAt (i * 2) (by omega)
      have q1 := hHO.cellAt (i * 2 + 1) (by omega)
      rw [k0] at q0
      rw [k1] at q1
      have hsn := Lib.hid (vsV_snoc (slV (two21 n RA RA') (two21 n RL RL') (two21 n RC RC')) i)
      unfold slV at hsn
      have hgl := (HR.out.lt g rfl)
      have hg4 := (hHO.lt g4 rfl)
      have HOI := HO
      have HRI := HR
      unfold slV at HRI
      generalize hth : two21 n TH TH' i = th at *
      generalize hra : two21 n RA RA' i = ra at *
      generalize hrl : two21 n RL RL' i = rl at *
      generalize hrc : two21 n RC RC' i = rc at *
      have hone := one_cell (wr.alloc (.cells #[.bool th, .slice ra rl rc] 27)) (.slice ra rl rc) 25
      rw [World.size_alloc] at hone
      have HONE := Lib.hid hone
      subst hA4
      clear hone hHO k0 k1 hth hra hrl hrc HR HO
      go_wp2_with ((at_builtin; refine wpList_append_lies _ rfl (.tmp 30) (.tmp 33) 24 rfl w1.heap.size 25 i0 (.slice none 0 0) 1 24 Try.underlying24 hi hz0 hz1 hz2 rfl (by decide) (.slice (some ⟨g, 0, none⟩) i c) i _ rfl ((HRI.out.alloc _).alloc _) ⟨wr.heap.size + 1, 0, none⟩ 1 1 [.slice ra rl rc] rfl rfl HONE.out (by intro u hu; simp at hu; subst hu; rfl) (by omega) (by unfold maxLen; omega) (by omega) (by have := HB.out.size; simp only [World.size_alloc]; omega) (wr.heap.size + 1 + 1) (by simp) ?_; intro g5 c5 w5 hown5 hg5 hat5 hlt5))
      have hb2 : Below wr.heap.size wr ((wr.alloc (.cells #[.bool th, .slice ra rl rc] 27)).alloc (.cells #[.slice ra rl rc] 25)) := ((Below.refl _ _).alloc (Nat.le_refl _) _).alloc (by simp) _
      have HR5 : Hid (w5.ownsRow w1.heap.size 25 1 (.slice (some ⟨g5, 0, none⟩) (i + 1) c5) (i + 1) (vsV (slV (two21 n RA RA') (two21 n RL RL') (two21 n RC RC')) (i + 1))) := by
        unfold Hid slV
        rw [hsn.out]
        exact hown5
      have HO5 : Hid (w5.ownsRow (w1.heap.size + 1) 27 2 (.slice (some ⟨g4, 0, none⟩) N c4) N (tcs (two21 n TH TH') (two21 n RA RA') (two21 n RL RL') (two21 n RC RC') N)) := own_blkV HOI.out fun y hy => by
        have e : g4 = y := Option.some.inj hy
        subst e
        exact (hg5.block g4 (by have := hb2.size; omega) (fun e2 => HD.out g4 rfl (Option.some.inj (show some g4 = some g from e2)))).trans (hb2.block g4 hg4.2)
      have HD5 : Hid (∀ y, (Value.slice (some ⟨g4, 0, none⟩) N c4).ownBlock = some y → y ≠ g5) := fun y hy => by
        have e : g4 = y := Option.some.inj hy
        subst e
        rcases hat5 with h | h
        · have e3 : g = g5 := Option.some.inj h
          rw [← e3]
          exact HD.out g4 rfl
        · omega
      have HB5 : Hid (Below w1.heap.size w1 w5) := (HB.out.trans (hb2.mono HB.out.size)).grown hg5 (by have := HB.out.size; have := hb2.size; omega) (fun x hx => (HRI.out.lt x hx).1)
      clear hown5 hg5 hat5 hlt5 hb2
      go_wp2
      go_roundw
      case rel => exact ⟨i + 1, by omega, by go_num, g5, c5, rfl, HR5, HO5, HD5, HB5⟩
      case measure => simp [intOf]; omega
    · obtain rfl : N = i := by omega
      have HB0 : Hid (Below w.heap.size w wr) := HB1.out.trans (HB.out.mono HB1.out.size)
      have H5 := Lib.hid (H1.out.below HB.out)
      have H5' := Lib.hid (H1'.out.below HB.out)
      have HRW : Hid (MIn wr (some ⟨g, 0, none⟩) N c (two21 n RA RA') (two21 n RL RL') (two21 n RC RC') (two21 n R R')) := min_ownV HR.out fun r hr => by
        unfold two21
        by_cases e : r < n
        · simp only [if_pos e]
          exact H5.out.row r e
        · simp only [if_neg e]
          exact H5'.out.row (r - n) (by have := HN.out; omega)
      have HRL : Hid (w1.heap.size ≤ g ∧ g < wr.heap.size) := HR.out.lt g rfl
      clear HR HO HD HB HB1 H1 H1' HA4
      obtain ⟨W5, hW5⟩ : ∃ W, W = wr := ⟨_, rfl⟩
      subst hW5
      go_wp2
      go_loopw [8, 38] (fun s iv wr => ∃ j t : Nat, j ≤ n ∧ iv = .int .i64 j ∧ s = .int .i64 t ∧ Hid (t = cntS TH j) ∧ Hid (Below W5.heap.size W5 wr)) (fun _ iv _ => n - (intOf iv).toNat)
      case atStart => exact ⟨0, 0, by omega, rfl, rfl, rfl, Below.refl _ _⟩
      case round =>
        obtain ⟨j, t, hj, rfl, rfl, ht, hb⟩ := hrel
        have htk : t ≤ j := by rw [ht.out]; exact cntS_le TH j
        by_cases hlt : j < n
        · have hkn : (j : Int) < n := by omega
          obtain ⟨b1, o1, rfl, _, q0, q1⟩ := (H5.out.below hb.out).at_ hlt
          have HBA := Lib.hid (fun C => hb.out.alloc hb.out.size (.cells C 27))
          have HSS : Hid (cntS TH (j + 1) = cntS TH j + (if TH j then 1 else 0)) := rfl
          generalize RA j = ra at *
          generalize RL j = rl at *
          generalize RC j = rc at *
          generalize TH j = th at *
          cases th
          case true =>
            have hnext : Hid (t + 1 = cntS TH (j + 1)) := by unfold Hid; rw [HSS.out, ht.out]; rfl
            go_wp2
            go_roundw
            case rel => exact ⟨j + 1, t + 1, by omega, by go_num, by go_num, hnext, Lib.hid (HBA.out _)⟩
            case measure => simp [intOf]; omega
          case false =>
            have hnext : Hid (t = cntS TH (j + 1)) := by unfold Hid; rw [HSS.out, ht.out]; rfl
            go_wp2
            go_roundw
            case rel => exact ⟨j + 1, t, by omega, by go_num, rfl, hnext, Lib.hid (HBA.out _)⟩
            case measure => simp [intOf]; omega
        · obtain rfl : n = j := by omega
          have HB6 : Hid (Below w.heap.size w wr) := HB0.out.trans (hb.out.mono HB0.out.size)
          have H6 := Lib.hid (H5.out.below hb.out)
          have H6' := Lib.hid (H5'.out.below hb.out)
          have HRW6 := Lib.hid (HRW.out.below hb.out)
          clear HB0 H5 H5' HRW hb
          by_cases hn20 : (20 : Int) < (n : Int)
          · go_wp2
            go_ret
            exact ⟨rfl, HB6.out⟩
          by_cases hm20 : (20 : Int) < (m : Int)
          · go_wp2
            go_ret
            exact ⟨rfl, HB6.out⟩
          have hnc : (n : Int) ≤ (c : Int) := by have := HRW6.out.le; have := HN.out; omega
          have hnN : (n : Int) ≤ (N : Int) := by have := HN.out; omega
          have HF1 := Lib.hid (few_c (MIn.takeV HRW6.out (m := n) (by have := HN.out; omega)))
          cases hf1 : decide (fewP n (two21 n RL RL')) with
          | false =>
            rw [hf1] at HF1
            clear hf1
            go_wp2_with fail
            refine HF1.out.mono ?_
            rintro e _ ⟨rfl, rfl⟩
            go_wp2
            go_ret
            exact ⟨rfl, HB6.out⟩
          | true =>
            rw [hf1] at HF1
            have hfew1 := of_decide_eq_true hf1
            have HFEW1 := Lib.hid hfew1
            clear hf1 hfew1
            go_wp2_with fail
            refine HF1.out.mono ?_
            rintro e _ ⟨rfl, rfl⟩
            clear HF1
            obtain ⟨f2, hf2⟩ : ∃ f2, f2 = decide (fewP (N - n) (fun r => two21 n RL RL' (n + r))) := ⟨_, rfl⟩
            have HF2a : Hid (c = n → Calls Try.prog 5 #[.slice (some ⟨g, 0, none⟩) (N - n) 0] wr fun e w' => e = .returned (.bool f2) ∧ wr = w') := fun hcn => by
              have hcN := HRW6.out.le
              rw [hf2]
              have e0 : N - n = 0 := by omega
              rw [e0]
              exact few_c (RA := fun _ => none) (RC := fun _ => 0) (R := fun _ => []) ⟨Nat.zero_le _, by unfold maxLen; omega, fun h => by omega, fun r hr => by omega⟩
            have HF2b : Hid (Calls Try.prog 5 #[.slice (some ⟨g, n, none⟩) (N - n) (c - n)] wr fun e w' => e = .returned (.bool f2) ∧ wr = w') := by
              rw [hf2]
              exact few_c (MIn.dropV HRW6.out (by have := HN.out; omega))
            have HV2 := Lib.hid hf2
            clear hf2
            go_wp2_with fail
            · refine (HF2a.out (by first | rfl | trivial | assumption)).mono ?_
              rintro e _ ⟨rfl, rfl⟩
              cases f2 with
              | false =>
                clear HF2a HF2b
                go_wp2
                go_ret
                exact ⟨rfl, HB6.out⟩
              | true =>
                have hfew2 := of_decide_eq_true HV2.out.symm
                have hl : ∀ r, r < n → RL r ≤ 1048576 := fun r hr => by
                  have h9 := HFEW1.out.2 r hr
                  unfold two21 at h9
                  rw [if_pos hr] at h9
                  omega
                have HRV := Lib.hid (RowV_c H6.out (by omega) hl k HK.out)
                have HLL := Lib.hid hl
                clear HF2a HF2b HV2 hfew2 HFEW1 hl HRW6
                go_wp2_with fail
                refine HRV.out.mono ?_
                rintro e w7 h7
                obtain ⟨A7, c7, RA7, RC7, rfl, hm7, hb7⟩ := h7.ans
                have HM7 := Lib.hid hm7
                have HB7 := Lib.hid (HB6.out.trans (hb7.mono HB6.out.size))
                have H7 := Lib.hid (H6.out.below hb7)
                have H7' := Lib.hid (H6'.out.below hb7)
                have HRR := Lib.hid (RRowV_c H7.out hn k HK.out)
                clear h7 hm7 hb7 HRV HB6 H6 H6'
                go_wp2_with fail
                refine HRR.out.mono ?_
                rintro e w8 h8
                obtain ⟨A8, c8, RA8, RC8, rfl, hm8, hb8⟩ := h8.ans
                have hrw := RowsW23_c (HM7.out.below hb8) hm8
                rw [decide_eq_true (show sameR23 _ _ _ _ from ⟨rfl, fun _ _ => rfl⟩)] at hrw
                have HRW := Lib.hid hrw
                have HB8 := Lib.hid (HB7.out.trans (hb8.mono HB7.out.size))
                have H8 := Lib.hid (H7.out.below hb8)
                have H8' := Lib.hid (H7'.out.below hb8)
                clear h8 hm8 hb8 HRR HB7 H7 H7' HM7 hrw
                generalize rwN TH RL n k = nn at *
                generalize rwE TH RL n k = ee at *
                have eee : (ee == ee) = true := by simp
                have HCT := Lib.hid (Count_c H8.out)
                obtain ⟨sv, hsv⟩ : ∃ sv, sv = decide (sameT n TH R m TH' R') := ⟨_, rfl⟩
                have HSV := Lib.hid hsv
                clear hsv
                go_wp2_with fail
                refine HRW.out.mono ?_
                rintro e _ ⟨rfl, q, rfl⟩
                have HB9 := Lib.hid (below_drewN HB8.out q)
                have H9 := Lib.hid (H8.out.drewN q)
                have H9' := Lib.hid (H8'.out.drewN q)
                clear HRW HB8 H8 H8' HCT
                generalize w8.drewN q = w9 at *
                have HCT := Lib.hid (Count_c H9.out)
                rw [← ht.out] at HCT
                have ett : ((t : Int) == (t : Int)) = true := by simp
                go_wp2_with fail
                refine HCT.out.mono ?_
                rintro e w10 ⟨rfl, hb10⟩
                have HB10 := Lib.hid (HB9.out.trans (hb10.mono HB9.out.size))
                have H10 := Lib.hid (H9.out.below hb10)
                have H10' := Lib.hid (H9'.out.below hb10)
                have HST := Lib.hid (SameT21_c H10.out H10'.out.two)
                rw [← HSV.out] at HST
                clear hb10 HB9 H9 H9' HCT
                go_wp2_with fail
                refine HST.out.mono ?_
                rintro e w11 ⟨rfl, hb11⟩
                have HB11 := Lib.hid (HB10.out.trans (hb11.mono HB10.out.size))
                have H11 := Lib.hid (H10.out.below hb11)
                have H11' := Lib.hid (H10'.out.below hb11)
                have HRT := Lib.hid (RSameT_c H11.out H11'.out)
                rw [← HSV.out] at HRT
                have esv : (sv == sv) = true := by simp
                clear hb11 HB10 H10 H10' HST
                go_wp2_with fail
                refine HRT.out.mono ?_
                rintro e w12 ⟨rfl, hb12⟩
                have HB12 := Lib.hid (HB11.out.trans (hb12.mono HB11.out.size))
                have H12 := Lib.hid (H11.out.below hb12)
                have HCL := Lib.hid (CloneT_c H12.out (by omega) HLL.out)
                clear hb12 HB11 H11 H11' HRT
                go_wp2_with fail
                refine HCL.out.mono ?_
                rintro e w13 ⟨A13, c13, RA13, RC13, rfl, ht13, hb13⟩
                have HB13 := Lib.hid (HB12.out.trans (hb13.mono HB12.out.size))
                have HRS := Lib.hid (RSameT_c ht13 (H12.out.below hb13))
                rw [sameT_self] at HRS
                clear ht13 hb13 HB12 H12 HCL
                go_wp2_with fail
                refine HRS.out.mono ?_
                rintro e w14 ⟨rfl, hb14⟩
                have HB14 := Lib.hid (HB13.out.trans (hb14.mono HB13.out.size))
                clear hb14 HB13 HRS
                go_wp2
                go_ret
                exact ⟨rfl, HB14.out⟩
            · refine HF2b.out.mono ?_
              rintro e _ ⟨rfl, rfl⟩
              cases f2 with
              | false =>
                clear HF2a HF2b
                go_wp2
                go_ret
                exact ⟨rfl, HB6.out⟩
              | true =>
                have hfew2 := of_decide_eq_true HV2.out.symm
                have hl : ∀ r, r < n → RL r ≤ 1048576 := fun r hr => by
                  have h9 := HFEW1.out.2 r hr
                  unfold two21 at h9
                  rw [if_pos hr] at h9
                  omega
                have HRV := Lib.hid (RowV_c H6.out (by omega) hl k HK.out)
                have HLL := Lib.hid hl
                clear HF2a HF2b HV2 hfew2 HFEW1 hl HRW6
                go_wp2_with fail
                refine HRV.out.mono ?_
                rintro e w7 h7
                obtain ⟨A7, c7, RA7, RC7, rfl, hm7, hb7⟩ := h7.ans
                have HM7 := Lib.hid hm7
                have HB7 := Lib.hid (HB6.out.trans (hb7.mono HB6.out.size))
                have H7 := Lib.hid (H6.out.below hb7)
                have H7' := Lib.hid (H6'.out.below hb7)
                have HRR := Lib.hid (RRowV_c H7.out hn k HK.out)
                clear h7 hm7 hb7 HRV HB6 H6 H6'
                go_wp2_with fail
                refine HRR.out.mono ?_
                rintro e w8 h8
                obtain ⟨A8, c8, RA8, RC8, rfl, hm8, hb8⟩ := h8.ans
                have hrw := RowsW23_c (HM7.out.below hb8) hm8
                rw [decide_eq_true (show sameR23 _ _ _ _ from ⟨rfl, fun _ _ => rfl⟩)] at hrw
                have HRW := Lib.hid hrw
                have HB8 := Lib.hid (HB7.out.trans (hb8.mono HB7.out.size))
                have H8 := Lib.hid (H7.out.below hb8)
                have H8' := Lib.hid (H7'.out.below hb8)
                clear h8 hm8 hb8 HRR HB7 H7 H7' HM7 hrw
                generalize rwN TH RL n k = nn at *
                generalize rwE TH RL n k = ee at *
                have eee : (ee == ee) = true := by simp
                have HCT := Lib.hid (Count_c H8.out)
                obtain ⟨sv, hsv⟩ : ∃ sv, sv = decide (sameT n TH R m TH' R') := ⟨_, rfl⟩
                have HSV := Lib.hid hsv
                clear hsv
                go_wp2_with fail
                refine HRW.out.mono ?_
                rintro e _ ⟨rfl, q, rfl⟩
                have HB9 := Lib.hid (below_drewN HB8.out q)
                have H9 := Lib.hid (H8.out.drewN q)
                have H9' := Lib.hid (H8'.out.drewN q)
                clear HRW HB8 H8 H8' HCT
                generalize w8.drewN q = w9 at *
                have HCT := Lib.hid (Count_c H9.out)
                rw [← ht.out] at HCT
                have ett : ((t : Int) == (t : Int)) = true := by simp
                go_wp2_with fail
                refine HCT.out.mono ?_
                rintro e w10 ⟨rfl, hb10⟩
                have HB10 := Lib.hid (HB9.out.trans (hb10.mono HB9.out.size))
                have H10 := Lib.hid (H9.out.below hb10)
                have H10' := Lib.hid (H9'.out.below hb10)
                have HST := Lib.hid (SameT21_c H10.out H10'.out.two)
                rw [← HSV.out] at HST
                clear hb10 HB9 H9 H9' HCT
                go_wp2_with fail
                refine HST.out.mono ?_
                rintro e w11 ⟨rfl, hb11⟩
                have HB11 := Lib.hid (HB10.out.trans (hb11.mono HB10.out.size))
                have H11 := Lib.hid (H10.out.below hb11)
                have H11' := Lib.hid (H10'.out.below hb11)
                have HRT := Lib.hid (RSameT_c H11.out H11'.out)
                rw [← HSV.out] at HRT
                have esv : (sv == sv) = true := by simp
                clear hb11 HB10 H10 H10' HST
                go_wp2_with fail
                refine HRT.out.mono ?_
                rintro e w12 ⟨rfl, hb12⟩
                have HB12 := Lib.hid (HB11.out.trans (hb12.mono HB11.out.size))
                have H12 := Lib.hid (H11.out.below hb12)
                have HCL := Lib.hid (CloneT_c H12.out (by omega) HLL.out)
                clear hb12 HB11 H11 H11' HRT
                go_wp2_with fail
                refine HCL.out.mono ?_
                rintro e w13 ⟨A13, c13, RA13, RC13, rfl, ht13, hb13⟩
                have HB13 := Lib.hid (HB12.out.trans (hb13.mono HB12.out.size))
                have HRS := Lib.hid (RSameT_c ht13 (H12.out.below hb13))
                rw [sameT_self] at HRS
                clear ht13 hb13 HB12 H12 HCL
                go_wp2_with fail
                refine HRS.out.mono ?_
                rintro e w14 ⟨rfl, hb14⟩
                have HB14 := Lib.hid (HB13.out.trans (hb14.mono HB13.out.size))
                clear hb14 HB13 HRS
                go_wp2
                go_ret
                exact ⟨rfl, HB14.out⟩
end Go.Proofs.Ytfjpbbejhegcjaa
