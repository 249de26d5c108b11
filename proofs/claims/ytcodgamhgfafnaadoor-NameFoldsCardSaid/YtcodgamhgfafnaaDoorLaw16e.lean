/-
  LAW 16: NameFolds, as a walk. No conditions. (WRITTEN by wip/gen16f.py.)
-/
import Derived.Test.YtcodgamhgfafnaaDoorLaw16d
namespace Go.Proofs.YtcodgamhgfafnaaDoor
open Go.RowKit Go.Shelf
set_option maxRecDepth 1000000
set_option linter.unusedVariables false

theorem own_form {w : World} {base n : Nat} {e : TypeId} {v : Value} {xs : List Value} (h : w.ownsRow base e 1 v n xs) : ∃ A c, v = .slice A n c := by
  rcases h.2 with ⟨rfl, rfl⟩ | ⟨g, cap, cur, rfl, _⟩
  · exact ⟨_, _, rfl⟩
  · exact ⟨_, _, rfl⟩
theorem strs_append (L M : List (List UInt8)) : strs (L ++ M) = strs L ++ strs M := by simp [strs]
theorem TwS.pos {L : List (List UInt8)} {i : Nat} (h : L.getD i [] ∈ L.take i) : 0 < i := by
  rcases Nat.eq_zero_or_pos i with rfl | h1
  · simp at h
  · exact h1
theorem TwS.front {L : List (List UInt8)} {i : Nat} (hi : i < L.length) (h : ∀ j, j < i → L.getD j [] ∉ L.take j) : TwS (L.take i) (-1) := ⟨.inl ⟨rfl, fun j hj => by
  rw [List.length_take] at hj
  have h1 := h j (by omega)
  have e1 : (L.take i).getD j [] = L.getD j [] := by
    rw [List.getD_eq_getElem?_getD, List.getD_eq_getElem?_getD, List.getElem?_take, if_pos (by omega)]
  have e2 : (L.take i).take j = L.take j := by rw [List.take_take]; congr 1; omega
  rw [e1, e2]
  exact h1⟩⟩
theorem TwS.double {L : List (List UInt8)} (hn : 0 < L.length) (h : ∀ j, j < L.length → L.getD j [] ∉ L.take j) : TwS (L ++ L) (L.length : Int) := ⟨.inr ⟨L.length, by rw [List.length_append]; omega, rfl, by
  rw [List.take_left, List.getD_eq_getElem?_getD, List.getElem?_append_right (Nat.le_refl _), Nat.sub_self, List.getElem?_eq_getElem hn]
  exact List.getElem_mem hn, fun j hj => by
  have h1 := h j hj
  have e1 : (L ++ L).getD j [] = L.getD j [] := by rw [List.getD_eq_getElem?_getD, List.getD_eq_getElem?_getD, List.getElem?_append_left hj]
  have e2 : (L ++ L).take j = L.take j := List.take_append_of_le_length (by omega)
  rw [e1, e2]
  exact h1⟩⟩
theorem TwS.none : TwS [] (-1) := ⟨.inl ⟨rfl, fun i hi => absurd hi (Nat.not_lt_zero _)⟩⟩
theorem SRow.front {w : World} {A : Option Addr} {n : Nat} {L : List (List UInt8)} (h : SRow w A n L) {k : Nat} (hk : k ≤ n) : SRow w A k (L.take k) := by
  refine ⟨by rw [List.length_take, h.len]; omega, fun hn => ?_⟩
  obtain ⟨b, off, e, hl, hc⟩ := h.top (by omega)
  refine ⟨b, off, e, hl, fun i hi => ?_⟩
  rw [hc i (by omega)]
  congr 3
  rw [List.getD_eq_getElem?_getD, List.getD_eq_getElem?_getD, List.getElem?_take, if_pos hi]
theorem SRow.list {w : World} {A : Option Addr} {n : Nat} {L : List (List UInt8)} (h : SRow w A n L) (hn : 0 < n) : ∃ ad, A = some ad ∧ (strs L).length = n * 1 ∧ ∀ j u, (strs L)[j]? = some u → w.cell? (ad.add j) = some u := by
  obtain ⟨b, off, rfl, hl, hc⟩ := h.top hn
  refine ⟨_, rfl, by rw [strs_length, h.len, Nat.mul_one], fun j u hu => ?_⟩
  have hj : j < n := by
    have := (List.getElem?_eq_some_iff.1 hu).1
    rw [strs_length, h.len] at this
    exact this
  rw [strs_at (by rw [h.len]; exact hj)] at hu
  have e : (⟨b, off, none⟩ : Addr).add j = ⟨b, off + j, none⟩ := by unfold Addr.add; split <;> simp_all
  rw [e, hc j hj]
  exact hu
theorem fN_out (x : Nat) : ¬ (65 ≤ fN x ∧ fN x ≤ 90) := by unfold fN; split <;> omega
theorem SRow.src {w : World} {A : Option Addr} {m : Nat} {L : List (List UInt8)} (h : SRow w A m L) : (A = none ∧ m = 0 ∧ L = []) ∨ ∃ ad, A = some ad ∧ (strs L).length = m * 1 ∧ ∀ j u, (strs L)[j]? = some u → w.cell? (ad.add j) = some u := by
  rcases Nat.eq_zero_or_pos m with rfl | hm
  · have hL : L = [] := List.length_eq_zero_iff.1 h.len
    subst hL
    cases A with
    | none => exact .inl ⟨rfl, rfl, rfl⟩
    | some ad => exact .inr ⟨ad, rfl, rfl, fun j u hu => by simp [strs] at hu⟩
  · exact .inr (h.list hm)
theorem append_s {P : Program} {w : World} {ops : Array Oper} {rest : List Oper} {o : Oper} {a : Act} {Q : Exit → Act → World → Prop} (hw : Region.wanted o (yielded ops a.tmps) = true) (s x : Operand) (t : TypeId)
    (ho : o.op = .call { callee := .builtin .append, args := #[s, x], argTypes := #[t, t] })
    (base : Nat) (e : TypeId) (i : TypeInfo) (z : Value) (bytes : Nat) (ht : P.underlying t = some (.slice e)) (hi : P.info? e = some i) (hz : i.zero = some z)
    (hsize : i.size = 1) (hby : i.bytes = bytes) (hzs : z.cells.size = 1)
    (v : Value) (n : Nat) (xs : List Value) (hs : a.eval s = v) (hown : w.ownsRow base e 1 v n xs)
    (A : Option Addr) (m c : Nat) (L : List (List UInt8)) (hx : a.eval x = .slice A m c) (hr : SRow w A m L)
    (h63 : n + m ≤ maxLen) (hbytes : (n + m) * bytes ≤ 140737488355328) (hbase : base ≤ w.heap.size)
    (h : ∀ v' w', w'.ownsRow base e 1 v' (n + m) (xs ++ strs L) → w.grownBy w' v.ownBlock → wpList P ops Q rest (a.put o.dst v') w') : wpList P ops Q (o :: rest) a w := by
  refine wpList_step fun K hK => ?_
  rw [if_pos hw]
  have hrun : ∃ v' w', (Builtin.append_ #[t, t] o.type #[v, .slice A m c]).run P w = .ok v' w' ∧ w'.ownsRow base e 1 v' (n + m) (xs ++ strs L) ∧ w.grownBy w' v.ownBlock := by
    rcases hr.src with ⟨rfl, rfl, rfl⟩ | ⟨ad, rfl, hl, hnews⟩
    · refine ⟨v, w, ?_, by simpa [strs] using hown, ⟨rfl, rfl, rfl, Nat.le_refl _, fun _ _ _ => rfl⟩⟩
      rcases hown.2 with ⟨rfl, rfl⟩ | ⟨g, cap, cur, rfl, _, _, hnc, _⟩
      · simp [Builtin.append_, run_underlying ht, sizeOf, typeInfo, hi, Builtin.lenOf, Builtin.firstCells]
      · simp [Builtin.append_, run_underlying ht, sizeOf, typeInfo, hi, Builtin.lenOf, Builtin.firstCells, hnc, storeCells]
    · obtain ⟨v', w', h1, h2, h3, _⟩ := run_append_own (P := P) w base t o.type e i z 1 bytes ht hi hz hsize hby hzs (by decide) v n xs hown ad m c (strs L) hl hnews (strs_one L) h63 hbytes hbase
      exact ⟨v', w', h1, h2, h3⟩
  obtain ⟨v', w', hrun, r1, r2⟩ := hrun
  unfold Oper.wp execOp
  simp only [ho, resolve, invoke, builtin, Sem.run_bind, Sem.run_pure, Result.andThen_ok, List.map_toArray, List.map_cons, List.map_nil, hs, hx, hrun]
  exact hK _ _ (h v' w' r1 r2)
theorem preR {w w' : World} (h : Below w.heap.size w w') : Below w.heap.size w w' := h
set_option maxHeartbeats 4000000 in
theorem walk_NameFolds (w : World) (_ : True) (s0 : ByteArray) (_ : s0.size ≤ maxLen) (t0 : ByteArray) (_ : t0.size ≤ maxLen) (A : Option Addr) (n c : Nat) (L : List (List UInt8)) (h : SRow w A n L) (hc : n ≤ c) (hm : c ≤ 9223372036854775807) (hx : ∀ i, i < n → (L.getD i []).length ≤ maxLen) :
    Calls Tryd.prog 7 #[.string s0, .string t0, .slice A n c] w fun e w' => e = .returned (.bool true) ∧ Below w.heap.size w w' := by
  obtain ⟨a, rfl⟩ := of_S s0
  obtain ⟨b, rfl⟩ := of_S t0
  obtain ⟨i0, hi, hz0, hz1, hz2⟩ := info_parts info_str
  have H := Lib.hid h
  have HX := Lib.hid hx
  have HLA := Lib.hid h.len
  clear h hx
  have z1 := S_size a
  have z2 := S_size b
  by_cases hl : 300 < a.length
  · generalize S a = sa at *
    generalize S b = sb at *
    go_enter Tryd.func7, Tryd.ntmps7
    go_wp2_with fail
    refine (alive16_c _).mono ?_
    rintro e w1 ⟨rfl, hb⟩
    have B1 := Lib.hid hb
    clear hb
    go_wp2
    go_ret
    exact ⟨rfl, B1.out⟩
  by_cases hd : 300 < b.length
  · generalize S a = sa at *
    generalize S b = sb at *
    go_enter Tryd.func7, Tryd.ntmps7
    go_wp2_with fail
    refine (alive16_c _).mono ?_
    rintro e w1 ⟨rfl, hb⟩
    have B1 := Lib.hid hb
    clear hb
    go_wp2
    go_ret
    exact ⟨rfl, B1.out⟩
  by_cases hn60 : 60 < n
  · generalize S a = sa at *
    generalize S b = sb at *
    go_enter Tryd.func7, Tryd.ntmps7
    go_wp2_with fail
    refine (alive16_c _).mono ?_
    rintro e w1 ⟨rfl, hb⟩
    have B1 := Lib.hid hb
    clear hb
    go_wp2
    go_ret
    exact ⟨rfl, B1.out⟩
  have HFA := Lib.hid (fun W => Fold_c a (by omega) W)
  have HFB := Lib.hid (fun W => Fold_c b (by omega) W)
  have HFF : Hid (∀ W, Calls Tryd.prog 16 #[.string (S (fol a))] W fun e w' => e = .returned (.string (S (fol a))) ∧ Below W.heap.size W w') := fun W => by
    have := Fold_c (fol a) (by rw [fol_length]; omega) W
    rw [fol_fol] at this
    exact this
  have HFC : Hid (∀ W, Calls Tryd.prog 16 #[.string (S (a ++ b))] W fun e w' => e = .returned (.string (S (fol a ++ fol b))) ∧ Below W.heap.size W w') := fun W => by
    have := Fold_c (a ++ b) (by rw [List.length_append]; omega) W
    rw [fol_append] at this
    exact this
  have hadd1 : S a ++ S b = S (a ++ b) := S_add _ _
  have hadd2 : S (fol a) ++ S (fol b) = S (fol a ++ fol b) := S_add _ _
  have z3 : (S (fol a)).size = a.length := by rw [S_size, fol_length]
  have z4 : (S (fol b)).size = b.length := by rw [S_size, fol_length]
  have HBY : Hid (∀ j, ∃ x, (∀ h : j < (S (fol a)).size, ((S (fol a))[j]'h).toNat = x) ∧ ¬ (65 ≤ x ∧ x ≤ 90) ∧ x < 256) := fun j => ⟨gb (fol a) j, byte_S (fol a) j, by rw [gb_fol2]; exact fN_out _, gb_lt _ _⟩
  generalize S (fol a ++ fol b) = fc at *
  generalize S (a ++ b) = sc at *
  generalize S (fol a) = fa at *
  generalize S (fol b) = fb at *
  generalize S a = sa at *
  generalize S b = sb at *
  generalize a.length = p at *
  generalize b.length = q at *
  go_enter Tryd.func7, Tryd.ntmps7
  go_wp2_with fail
  refine (alive16_c _).mono ?_
  rintro e w1 ⟨rfl, hb⟩
  have B1 := Lib.hid hb
  clear hb
  go_wp2_with fail
  refine (HFA.out w1).mono ?_
  rintro e w2 ⟨rfl, hb⟩
  have B2 := Lib.hid (B1.out.trans (hb.mono B1.out.size))
  clear hb
  go_wp2
  go_loopw [29] (fun i wr => ∃ j : Nat, i = .int .i64 (j : Int) ∧ j ≤ p ∧ w2 = wr) (fun i _ => p - (intOf i).toNat)
  case atStart => exact ⟨0, rfl, by omega, rfl⟩
  case round =>
    obtain ⟨j, rfl, hjp, rfl⟩ := hrel
    by_cases hlt : j < p
    · have hlti : (j : Int) < (p : Int) := by omega
      obtain ⟨x, hx1, hx2, hx3⟩ := HBY.out j
      have hjs : j < fa.size := by omega
      by_cases h65 : 65 ≤ x
      · have h90 : ¬ x ≤ 90 := by omega
        clear hx2
        go_wp2
        go_roundw
        case rel => exact ⟨j + 1, by go_num, by omega, by first | exact trivial | rfl⟩
        case measure => simp [intOf]; omega
      · clear hx2
        go_wp2
        go_roundw
        case rel => exact ⟨j + 1, by go_num, by omega, by first | exact trivial | rfl⟩
        case measure => simp [intOf]; omega
    · obtain rfl : j = p := by omega
      have hlti : ¬ (j : Int) < (j : Int) := by omega
      go_wp2_with fail
      refine (Twice_c A n c L w2 (H.out.below B2.out) (by omega) HX.out).mono ?_
      rintro e w3 ⟨z, rfl, hz, hb⟩
      have B3 := Lib.hid (B2.out.trans (hb.mono B2.out.size))
      clear hb
      rcases hz.res with ⟨rfl, hno⟩ | ⟨k, hk, rfl, hin, hno⟩
      · have hnn : ¬ (-1 : Int) ≥ (n : Int) := by omega
        have HDB : Hid (0 < n → TwS (L ++ L) (n : Int)) := fun hn0 => by rw [← HLA.out]; exact TwS.double (by rw [HLA.out]; exact hn0) hno
        have HLL : Hid (∀ i, i < n + n → ((L ++ L).getD i []).length ≤ maxLen) := fun i hi => by
          rcases Nat.lt_or_ge i n with h3 | h3
          · rw [List.getD_eq_getElem?_getD, List.getElem?_append_left (by rw [HLA.out]; exact h3), ← List.getD_eq_getElem?_getD]
            exact HX.out i h3
          · rw [List.getD_eq_getElem?_getD, List.getElem?_append_right (by rw [HLA.out]; exact h3), ← List.getD_eq_getElem?_getD, HLA.out]
            exact HX.out (i - n) (by omega)
        clear hno hz
        go_wp2_with fail
        refine (HFF.out w3).mono ?_
        rintro e w4 ⟨rfl, hb⟩
        have B4 := Lib.hid (B3.out.trans (hb.mono B3.out.size))
        clear hb
        go_wp2_with fail
        refine (HFC.out w4).mono ?_
        rintro e w5 ⟨rfl, hb⟩
        have B5 := Lib.hid (B4.out.trans (hb.mono B4.out.size))
        clear hb
        go_wp2_with fail
        refine (HFB.out w5).mono ?_
        rintro e w6 ⟨rfl, hb⟩
        have B6 := Lib.hid (B5.out.trans (hb.mono B5.out.size))
        clear hb
        go_wp2_with (first
          | (at_builtin; refine append_s (show Region.wanted _ (yielded _ _) = true from rfl) (.tmp 90) (.tmp 91) 24 rfl w6.heap.size 9 i0 (.string ⟨#[]⟩) 16 Tryd.underlying24 hi hz0 hz1 hz2 rfl (.slice (some ⟨w6.heap.size, 0, none⟩) 0 0) 0 [] rfl (World.ownsRow_made w6 #[] 0 (Nat.le_refl _) (Nat.zero_le _) rfl) A n c L rfl (H.out.below (B6.out.alloc B6.out.size _)) (by unfold maxLen; omega) (by omega) (by simp) ?_
             intro v7 w7 hown7 hgrow7
             have B7 := Lib.hid ((B6.out.alloc B6.out.size _).grown hgrow7 (by have := B6.out.size; simp; omega) (fun z e => by cases e; exact B6.out.size))
             have hs7 : w6.heap.size ≤ w7.heap.size := by have := hgrow7.size; simp at this; omega
             rw [Nat.zero_add, List.nil_append] at hown7
             clear hgrow7
             obtain ⟨A7, c7, rfl⟩ := own_form hown7)
          | (at_builtin; refine append_s (show Region.wanted _ (yielded _ _) = true from rfl) (.tmp 92) (.tmp 93) 24 rfl w6.heap.size 9 i0 (.string ⟨#[]⟩) 16 Tryd.underlying24 hi hz0 hz1 hz2 rfl (.slice A7 n c7) n (strs L) rfl hown7 A n c L rfl (H.out.below B7.out) (by unfold maxLen; omega) (by omega) hs7 ?_
             intro v8 w8 hown8 hgrow8
             have B8 := Lib.hid (B7.out.grown hgrow8 B7.out.size (fun z e => Nat.le_trans B6.out.size (hown7.lt z e).1))
             rw [← strs_append] at hown8
             clear hgrow8 hown7
             obtain ⟨A8, c8, rfl⟩ := own_form hown8))
        refine (Twice_c A8 (n + n) c8 (L ++ L) w8 (SRow.of_own hown8) (by omega) HLL.out).mono ?_
        rintro e w9 ⟨z, rfl, hz, hb⟩
        have B9 := Lib.hid (B8.out.trans (hb.mono B8.out.size))
        clear hb hown8
        rcases Nat.eq_zero_or_pos n with hn0 | hn0
        · subst hn0
          have hL : L = [] := List.length_eq_zero_iff.1 HLA.out
          subst hL
          obtain rfl := hz.unique TwS.none
          clear hz
          go_wp2
          go_ret
          exact ⟨rfl, B9.out⟩
        · obtain rfl := hz.unique (HDB.out hn0)
          clear hz
          go_wp2
          go_ret
          exact ⟨rfl, B9.out⟩
      · rw [HLA.out] at hk
        have hk0 := TwS.pos hin
        have HFR : Hid (TwS (L.take k) (-1)) := TwS.front (by rw [HLA.out]; exact hk) hno
        have hk1 : ¬ (k : Int) ≥ (n : Int) := by omega
        have hk2 : ((k : Int) == 0) = false := by rw [beq_eq_false_iff_ne]; omega
        have hk3 : (0 : Int) < (k : Int) := by omega
        have hkc : k ≤ c := by omega
        clear hno hz hin
        go_wp2_with fail
        refine (Twice_c A k c (L.take k) w3 ((H.out.below B3.out).front (by omega)) (by omega) (fun i hi => by
          have e : (L.take k).getD i [] = L.getD i [] := by rw [List.getD_eq_getElem?_getD, List.getD_eq_getElem?_getD, List.getElem?_take, if_pos hi]
          rw [e]
          exact HX.out i (by omega))).mono ?_
        rintro e w4 ⟨z, rfl, hz, hb⟩
        obtain rfl := hz.unique HFR.out
        have B4 := Lib.hid (B3.out.trans (hb.mono B3.out.size))
        clear hb hz
        go_wp2_with fail
        refine (HFF.out w4).mono ?_
        rintro e w5 ⟨rfl, hb⟩
        have B5 := Lib.hid (B4.out.trans (hb.mono B4.out.size))
        clear hb
        go_wp2_with fail
        refine (HFC.out w5).mono ?_
        rintro e w6 ⟨rfl, hb⟩
        have B6 := Lib.hid (B5.out.trans (hb.mono B5.out.size))
        clear hb
        go_wp2_with fail
        refine (HFB.out w6).mono ?_
        rintro e w7 ⟨rfl, hb⟩
        have B7 := Lib.hid (B6.out.trans (hb.mono B6.out.size))
        clear hb
        go_wp2
        go_ret
        exact ⟨rfl, B7.out⟩
end Go.Proofs.YtcodgamhgfafnaaDoor
