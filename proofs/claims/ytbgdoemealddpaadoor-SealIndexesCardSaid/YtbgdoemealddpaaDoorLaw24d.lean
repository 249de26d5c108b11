/-
  LAW 24's WALKS, fourth part: SealIndexes: it returns true, and writes nothing that was there. No conditions but that the table lies as the program's text lays it.
-/
import Derived.Test.YtbgdoemealddpaaDoorLaw24c
namespace Go.Proofs.YtbgdoemealddpaaDoor
open Go.RowKit
set_option maxRecDepth 100000
set_option linter.unusedVariables false

theorem GIn.news {w : World} {b o n cap : Nat} {RA : Nat → Option Addr} {RL RC : Nat → Nat} {R : Nat → List G} (h : GIn w (some ⟨b, o, none⟩) n cap RA RL RC R) : ∀ j u, (vs (slg RA RL RC) n)[j]? = some u → w.cell? ((⟨b, o, none⟩ : Addr).add j) = some u := by
  intro j u hu
  have hj : j < n := by
    have := (List.getElem?_eq_some_iff.1 hu).1
    rwa [vs_length] at this
  obtain ⟨b', o', e, _, hc⟩ := h.at_ hj
  injection e with e
  injection e with e1 e2
  subst e1 e2
  have e : (⟨b, o, none⟩ : Addr).add j = ⟨b, o + j, none⟩ := by unfold Addr.add; split <;> simp_all
  rw [e, hc, ← hu, vs_at _ hj]
  rfl
theorem GRow.news {w : World} {b o n : Nat} {l : List G} (h : GRow w (some ⟨b, o, none⟩) n l) : ∀ j u, (gs l)[j]? = some u → w.cell? ((⟨b, o, none⟩ : Addr).add j) = some u := by
  intro j u hu
  have hj : j < n := by
    have := (List.getElem?_eq_some_iff.1 hu).1
    rw [gs_length, h.1] at this
    exact this
  obtain ⟨b', o', e, _, hc⟩ := h.2.2 (by omega)
  injection e with e
  injection e with e1 e2
  subst e1 e2
  have e : (⟨b, o, none⟩ : Addr).add j = ⟨b, o + j, none⟩ := by unfold Addr.add; split <;> simp_all
  rw [e, hc j hj, ← hu, gs_at (by rw [h.1]; exact hj)]
theorem own_made {w : World} {base n : Nat} {e : TypeId} {v : Value} {xs : List Value} (h : w.ownsRow base e 1 v n xs) (hn : 1 ≤ n) : ∃ g c, v = .slice (some ⟨g, 0, none⟩) n c ∧ base ≤ g ∧ g < w.heap.size ∧ n ≤ c ∧ c ≤ maxLen := by
  rcases h.2 with ⟨_, h0⟩ | ⟨g, cap, cur, hv, hb, hg, h1, h2, _⟩
  · omega
  · exact ⟨g, cap, hv, hb, (Array.getElem?_eq_some_iff.1 hg).1, h1, h2⟩
theorem step_append_some {P : Program} {w : World} {ops : Array Oper} {o : Oper} {a : Act} {K : Act → World → Prop} {Q : Exit → Act → World → Prop} {G : Prop} (hgd : o.guard = none) (s x : Operand) (t : TypeId)
    (ho : o.op = .call { callee := .builtin .append, args := #[s, x], argTypes := #[t, t] })
    (base : Nat) (e : TypeId) (i : TypeInfo) (z : Value) (bytes : Nat) (ht : P.underlying t = some (.slice e)) (hi : P.info? e = some i) (hz : i.zero = some z)
    (hsize : i.size = 1) (hby : i.bytes = bytes) (hzs : z.cells.size = 1)
    (g0 n c0 : Nat) (xs : List Value) (hs : a.eval s = .slice (some ⟨g0, 0, none⟩) n c0) (hown : w.ownsRow base e 1 (.slice (some ⟨g0, 0, none⟩) n c0) n xs)
    (ad : Addr) (m c : Nat) (news : List Value) (hx : a.eval x = .slice (some ad) m c) (hl : news.length = m * 1) (hnews : ∀ j u, news[j]? = some u → w.cell? (ad.add j) = some u) (h1 : ∀ u ∈ news, u.oneCell' = true)
    (h63 : n + m ≤ maxLen) (hbytes : (n + m) * bytes ≤ 140737488355328) (hbase : base ≤ w.heap.size)
    (h : ∀ g c' w', w'.ownsRow base e 1 (.slice (some ⟨g, 0, none⟩) (n + m) c') (n + m) (xs ++ news) → w.grownBy w' (some g0) → K (a.put o.dst (.slice (some ⟨g, 0, none⟩) (n + m) c')) w') :
    if Region.wanted o (yielded ops a.tmps) = true then Oper.wp P o a w K Q else G := by
  have hw : Region.wanted o (yielded ops a.tmps) = true := by simp [Region.wanted, hgd]
  rw [if_pos hw]
  refine wp_append_own w s x t ho base e i z 1 bytes ht hi hz hsize hby hzs (by decide) _ n xs hs hown ad m c news hx hl hnews h1 h63 hbytes hbase fun v' w' h2 h3 h4 => ?_
  rcases h2.2 with ⟨hv, _⟩ | ⟨g', cap', cur, hv, _⟩
  · exact absurd (h4.1 hv).1 (by intro h; cases h)
  · subst hv
    exact h g' cap' w' h2 h3
theorem own_setCellN {w : World} {base n m : Nat} {e : TypeId} {v : Value} {xs : List Value} (h : w.ownsRow base e 1 v n xs) (hm : v.ownBlock ≠ some m) (i : Nat) (u : Value) : (w.setCell ⟨m, i, none⟩ u).ownsRow base e 1 v n xs :=
  h.kept (row := some m) ⟨rfl, rfl, rfl, by simp, fun k _ hk => Below.heap_setCell _ _ _ _ (fun e => hk (by rw [e]))⟩ (.inr hm)
theorem own_some {g n c m : Nat} (h : g ≠ m) : (Value.slice (some ⟨g, 0, none⟩) n c).ownBlock ≠ some m := fun e => by
  have e2 : some g = some m := e
  injection e2 with e2
  exact h e2
theorem gs_set (l : List G) (i : Nat) (x : G) : (gs l).set i (.int .u32 x.n) = gs (l.set i x) := by simp [gs, List.map_set]
theorem gone_ne (x : G) : ¬ x + ofG 1 = x := fun h => by
  have h1 := congrArg (fun g : G => g.n) h
  have h2 : (x + ofG 1).n = x.n ^^^ 1 := by rw [gadd_n, ofG_n 1 (by decide)]
  have h3 : x.n ^^^ 1 = x.n := h2.symm.trans h1
  have h4 := congrArg (fun z => Nat.testBit z 0) h3
  simp at h4
  omega
theorem gone_x (x : G) : bits BinOp.xor IntKind.u32 (x.n : Int) 1 = ((x + ofG 1).n : Int) := by
  have h := gxor_G x (ofG 1)
  rw [ofG_n 1 (by decide)] at h
  exact h
theorem ParseE_c {w : World} (ht : Tab w) {A : Option Addr} {n c : Nat} {l : List F} (h : RowIn w A n c l) (hn : n ≤ 100000) :
    Calls Tryd.prog 19 #[.slice A n c] w fun e w' => ∃ p0 p1 p2 p3 p4 A5 n5 c5 C6 n6 c6, e = .returned (.tuple #[.agg #[.int .i64 p0, .int .i64 p1, .int .i64 p2, .int .i64 p3, .int .i64 p4, .slice A5 n5 c5], .slice C6 n6 c6, .int .i64 (prE l)]) ∧ Below w.heap.size w w' :=
  (Parse_c ht h hn).mono fun e w' ⟨A, c, RA, RC, C, cc, h1, _, _, h4⟩ => ⟨_, _, _, _, _, _, _, _, _, _, _, h1, h4⟩
theorem one_new (w : World) (t : TypeId) (v : Value) : ∀ j u, [v][j]? = some u → (w.alloc (.cells #[v] t)).cell? ((⟨w.heap.size, 0, none⟩ : Addr).add j) = some u := by
  intro j u hu
  have hj : j < 1 := (List.getElem?_eq_some_iff.1 hu).1
  obtain rfl : j = 0 := by omega
  have e : (⟨w.heap.size, 0, none⟩ : Addr).add 0 = ⟨w.heap.size, 0, none⟩ := by unfold Addr.add; split <;> simp_all
  rw [e]
  exact ((Blk.new w t #[v]).cell 0).trans hu
theorem set_gone {l : List G} {x : G} (h0 : 0 < l.length) (hx : x = gg l 0 + ofG 1) : ¬ l.set 0 x = l := fun h => by
  have h1 : gg (l.set 0 x) 0 = x := by
    rw [gg_lt (by simp; exact h0)]
    simp
  rw [h] at h1
  exact gone_ne _ (hx.symm.trans h1.symm)
theorem own_setCellS {w : World} {base n m : Nat} {e : TypeId} {v : Value} {xs : List Value} (h : w.ownsRow base e 1 v n xs) (hm : m < base) (i : Nat) (u : Value) : (w.setCell ⟨m, i, none⟩ u).ownsRow base e 1 v n xs :=
  h.kept (row := some m) ⟨rfl, rfl, rfl, by simp, fun k _ hk => Below.heap_setCell _ _ _ _ (fun e => hk (by rw [e]))⟩ (by
    cases hv : v.ownBlock with
    | none => exact .inl rfl
    | some g => exact .inr (fun e => by injection e with e; have := (h.lt g hv).1; omega))
set_option maxHeartbeats 8000000 in
theorem walk_SealIndexes (w : World) (ht : Tab w) (N K S B I : Int) (A : Option Addr) (n cap : Nat) (RA : Nat → Option Addr) (RL RC : Nat → Nat) (R : Nat → List G) (h4 : Wf4 N K S B) (hI : (Lit.int .i64 I).wf = true) (hG : GIn w A n cap RA RL RC R)
    (C : Option Addr) (L cc : Nat) (col : List F) (hC : RowIn w C L cc col) (a : Int) (ha : (Lit.int .i64 a).wf = true) (y : F) :
    Calls Tryd.prog 6 #[.agg #[.int .i64 N, .int .i64 K, .int .i64 S, .int .i64 B, .int .i64 I, .slice A n cap], .slice C L cc, .int .i64 a, .int .u8 y.n] w fun e w' => e = .returned (.bool true) ∧ Below w.heap.size w w' := by
  have hb := (Below.refl w.heap.size w).alloc (Nat.le_refl _) (.cells #[.int .i64 N, .int .i64 K, .int .i64 S, .int .i64 B, .int .i64 I, .slice A n cap] 26)
  have HX0 := Lib.hid (Blk.new w 26 #[.int .i64 N, .int .i64 K, .int .i64 S, .int .i64 B, .int .i64 I, .slice A n cap])
  have HB0 := Lib.hid hb
  have HG := Lib.hid hG
  have HC := Lib.hid hC
  have HT := Lib.hid ht
  have hLm := hC.row.max
  have HW := Lib.hid h4
  clear hb hG hC ht hI h4
  go_enter Tryd.func6, Tryd.ntmps6
  go_wp2_with fail
  refine (alive24_c _ (HT.out.below HB0.out rfl)).mono ?_
  rintro e W1 ⟨rfl, hb1⟩
  have HX1 := Lib.hid (HX0.out.below HX0.out.lt hb1)
  have HB1 := Lib.hid (HB0.out.trans (hb1.mono HB0.out.size))
  clear hb1 HX0 HB0
  have z0 := (HX1.out.cell 0).trans (show _ = some (Value.int .i64 N) from rfl)
  have z1 := (HX1.out.cell 1).trans (show _ = some (Value.int .i64 K) from rfl)
  have z2 := (HX1.out.cell 2).trans (show _ = some (Value.int .i64 S) from rfl)
  have z3 := (HX1.out.cell 3).trans (show _ = some (Value.int .i64 B) from rfl)
  have z4 := (HX1.out.cell 4).trans (show _ = some (Value.int .i64 I) from rfl)
  have z5 := (HX1.out.cell 5).trans (show _ = some (Value.slice A n cap) from rfl)
  go_wp2_with fail
  refine (small_c HW.out (HG.out.below HB1.out)).mono ?_
  rintro e W2 ⟨b, rfl, hsm, hb2⟩
  have HX2 := Lib.hid (HX1.out.below HX1.out.lt hb2)
  have HB2 := Lib.hid (HB1.out.trans (hb2.mono HB1.out.size))
  have HSM := Lib.hid hsm
  clear hb2 hsm z0 z1 z2 z3 z4 z5 HX1 HB1
  cases b with
  | false =>
    go_wp2
    go_ret
    exact ⟨rfl, HB2.out⟩
  | true =>
    by_cases hLm2 : 1100 < L
    case pos =>
      have hLi : (1100 : Int) < (L : Int) := by omega
      go_wp2
      go_ret
      exact ⟨rfl, HB2.out⟩
    case neg =>
    have hLi : ¬ (1100 : Int) < (L : Int) := by omega
    have z0 := (HX2.out.cell 0).trans (show _ = some (Value.int .i64 N) from rfl)
    have z1 := (HX2.out.cell 1).trans (show _ = some (Value.int .i64 K) from rfl)
    have z2 := (HX2.out.cell 2).trans (show _ = some (Value.int .i64 S) from rfl)
    have z3 := (HX2.out.cell 3).trans (show _ = some (Value.int .i64 B) from rfl)
    have z4 := (HX2.out.cell 4).trans (show _ = some (Value.int .i64 I) from rfl)
    have z5 := (HX2.out.cell 5).trans (show _ = some (Value.slice A n cap) from rfl)
    cases hw : wrO N K S B I n RL L with
    | false =>
      have HWn := Lib.hid (fun W hG => Write_no (I := I) HW.out (w := W) (A := A) (m := n) (cap := cap) (RA := RA) (RL := RL) (RC := RC) (R := R) hG C L cc hLm (wrO_no hw))
      clear hw
      go_wp2_with fail
      refine (HWn.out _ (HG.out.below HB2.out)).mono ?_
      rintro e W3 ⟨rfl, hb3⟩
      have HB3 := Lib.hid (HB2.out.trans (hb3.mono HB2.out.size))
      clear hb3 z0 z1 z2 z3 z4 z5 HX2 HB2
      go_wp2
      go_ret
      exact ⟨rfl, HB3.out⟩
    | true =>
      have hD : wrD N K S B I n RL L := (HSM.out rfl).wrD
      obtain ⟨n', k', s', b', i', rfl, rfl, rfl, rfl, rfl, hr, hn, hRL, hL8, hh, hq⟩ := wrO_parts hw
      obtain ⟨d1, d2, d3⟩ := hD hw
      have d4 := hd_small (HSM.out rfl) hr hRL hn
      rw [hh] at d1
      rw [hq] at d3
      have hbd := hr.bd
      have hik := hr.ik
      have hq1 : 1 ≤ blkN s' b' := blkN_pos (by omega)
      have hRl : ∀ r, r < n' + k' → (R r).length = blkN s' b' := fun r h9 => (HG.out.row r (by omega)).1.trans (hRL r (by omega))
      have hcl : col.length = 8 + s' := by rw [HC.out.row.len]; exact hL8
      obtain ⟨T, hT⟩ : ∃ T, T = hdN n' k' (blkN s' b') + L := ⟨_, rfl⟩
      obtain ⟨fb, hF⟩ : ∃ fb : Nat → List F, ∀ j, slB n' k' s' b' j R n col = fb j := ⟨fun j => _, fun _ => rfl⟩
      obtain ⟨gb, hgb⟩ : ∃ gb : (Nat → List G) → List F, ∀ R', slB n' k' s' b' i' R' n col = gb R' := ⟨fun j => _, fun _ => rfl⟩
      have HWj : Hid (∀ W (j : Nat), j < k' → Tab W → GIn W A n cap RA RL RC R → RowIn W C L cc col → Calls Tryd.prog 9 #[.agg #[.int .i64 (n' : Int), .int .i64 (k' : Int), .int .i64 (s' : Int), .int .i64 (b' : Int), .int .i64 (j : Int), .slice A n cap], .slice C L cc] W fun e w' => ∃ V c', e = .returned (.tuple #[.slice V T c', .int .i64 0]) ∧ w'.ownsRow (W.heap.size + 1) 5 1 (.slice V T c') T (cs (fb j)) ∧ Below W.heap.size W w') := fun W j hj ht hG hC => by
        rw [← hF j, hT]
        exact Write_yes HW.out hr.r hj ht hG hn hRL hC hL8 d1 (by omega) d3
      have HWs : Hid (∀ W A' cap' RA' RC' R', Tab W → GIn W A' n cap' RA' RL RC' R' → RowIn W C L cc col → Calls Tryd.prog 9 #[.agg #[.int .i64 (n' : Int), .int .i64 (k' : Int), .int .i64 (s' : Int), .int .i64 (b' : Int), .int .i64 (i' : Int), .slice A' n cap'], .slice C L cc] W fun e w' => ∃ V c', e = .returned (.tuple #[.slice V T c', .int .i64 0]) ∧ w'.ownsRow (W.heap.size + 1) 5 1 (.slice V T c') T (cs (gb R')) ∧ Below W.heap.size W w') := fun W A' cap' RA' RC' R' ht hG hC => by
        rw [← hgb R', hT]
        exact Write_yes HW.out hr.r hik ht hG hn hRL hC hL8 d1 (by omega) d3
      have HIX : Hid (∀ j, j < k' → (decide (fb j = fb i') = decide (j = i'))) := fun j hj => by
        rw [← hF, ← hF]
        by_cases e : j = i'
        · rw [e]; simp
        · rw [decide_eq_false e, decide_eq_false (fun h => e (slB_index (by omega) (by omega) h))]
      have HNE : Hid (∀ R', (∀ r, r < n → (R' r).length = blkN s' b') → ¬ R' 0 = R 0 → ¬ gb R' = fb i') := fun R' h1 h2 h => by
        rw [← hgb, ← hF] at h
        exact h2 (slB_sums h1 (fun r h9 => hRl r (by omega)) h 0 (by omega))
      have HCT : Hid (∀ m, m < T → ¬ prE ((fb i').take m) = 0) := fun m hm => by
        rw [← hF, hn]
        exact prE_cut hr hRl hcl (by rw [slB_length hRl, hcl, ← hL8, ← hT]; exact hm)
      have HMR : Hid (prE (fb i' ++ [y]) = 22) := by
        unfold Hid
        rw [← hF, hn]
        exact prE_more hr hRl hcl y
      have hfl : (fb i').length = T := by rw [← hF, hn, slB_length hRl, hcl, ← hL8, ← hT]
      have HFL := Lib.hid hfl
      have HRl := Lib.hid hRl
      have hh24 : 24 ≤ hdN n' k' (blkN s' b') := by unfold hdN; omega
      have hT0 : 0 < T := by omega
      have hT9 : T ≤ 99000 := by omega
      have hRL0 : RL 0 = blkN s' b' := hRL 0 (by omega)
      have HRL := Lib.hid hRL
      have HN := Lib.hid hn
      have hn1 : 1 ≤ n := by omega
      have hn255 : n ≤ 255 := by omega
      have hq9 : blkN s' b' ≤ 1000 := d3
      have hk255 : k' ≤ 255 := by omega
      clear hF hgb hRl hcl hfl hT hD hw hh hq hL8 d1 d2 d3 d4 hRL hh24 hn hbd
      generalize blkN s' b' = q at *
      go_wp2_with fail
      refine (HWj.out _ i' hik (HT.out.below HB2.out rfl) (HG.out.below HB2.out) (HC.out.below HB2.out)).mono ?_
      rintro e W3 ⟨V3, c3, rfl, hown3, hb3⟩
      obtain ⟨g, rfl, hgb⟩ : ∃ g, V3 = some ⟨g, 0, none⟩ ∧ w.heap.size < g := by
        rcases hown3.2 with ⟨_, h0⟩ | ⟨g, cp, cur, hv, hbg, _⟩
        · omega
        · injection hv with hv
          exact ⟨g, hv, by have := HX2.out.lt; omega⟩
      have HX3 := Lib.hid (HX2.out.below HX2.out.lt hb3)
      have HB3 := Lib.hid (HB2.out.trans (hb3.mono HB2.out.size))
      have HV3 := Lib.hid hown3
      clear hown3 hb3 z0 z1 z2 z3 z4 z5 HX2 HB2
      have z0 := (HX3.out.cell 0).trans (show _ = some (Value.int .i64 (n' : Int)) from rfl)
      have z1 := (HX3.out.cell 1).trans (show _ = some (Value.int .i64 (k' : Int)) from rfl)
      have z2 := (HX3.out.cell 2).trans (show _ = some (Value.int .i64 (s' : Int)) from rfl)
      have z3 := (HX3.out.cell 3).trans (show _ = some (Value.int .i64 (b' : Int)) from rfl)
      have z4 := (HX3.out.cell 4).trans (show _ = some (Value.int .i64 (i' : Int)) from rfl)
      have z5 := (HX3.out.cell 5).trans (show _ = some (Value.slice A n cap) from rfl)
      go_wp2
      clear z0 z1 z2 z3 z4 z5
      go_loopw [48] (fun v wr => ∃ j : Nat, j ≤ k' ∧ v = .int .i64 j ∧ Hid (Below W3.heap.size W3 wr)) (fun v _ => k' - (intOf v).toNat)
      case atStart => exact ⟨0, by omega, rfl, Below.refl _ _⟩
      case round =>
        obtain ⟨j, hj, rfl, hbr⟩ := hrel
        have HXr := Lib.hid (HX3.out.below HX3.out.lt hbr.out)
        have HBr := Lib.hid (HB3.out.trans (hbr.out.mono HB3.out.size))
        have HVr := Lib.hid (own_below HV3.out hbr.out)
        have z0 := (HXr.out.cell 0).trans (show _ = some (Value.int .i64 (n' : Int)) from rfl)
        have z1 := (HXr.out.cell 1).trans (show _ = some (Value.int .i64 (k' : Int)) from rfl)
        have z2 := (HXr.out.cell 2).trans (show _ = some (Value.int .i64 (s' : Int)) from rfl)
        have z3 := (HXr.out.cell 3).trans (show _ = some (Value.int .i64 (b' : Int)) from rfl)
        have z4 := (HXr.out.cell 4).trans (show _ = some (Value.int .i64 (i' : Int)) from rfl)
        have z5 := (HXr.out.cell 5).trans (show _ = some (Value.slice A n cap) from rfl)
        by_cases hjk : j < k'
        case pos =>
          have hjki : (j : Int) < k' := by omega
          have ha := (Below.refl wr.heap.size wr).alloc (Nat.le_refl _) (.cells #[.int .i64 (n' : Int), .int .i64 (k' : Int), .int .i64 (s' : Int), .int .i64 (b' : Int), .int .i64 (j : Int), .slice A n cap] 26)
          have HBa := Lib.hid (HBr.out.trans (ha.mono HBr.out.size))
          have HRa := Lib.hid (hbr.out.trans (ha.mono hbr.out.size))
          clear ha
          go_wp2_with fail
          refine (HWj.out _ j hjk (HT.out.below HBa.out rfl) (HG.out.below HBa.out) (HC.out.below HBa.out)).mono ?_
          rintro e W5 ⟨V5, c5, rfl, hown5, hb5⟩
          have HR5 := Lib.hid (HRa.out.trans (hb5.mono HRa.out.size))
          have HX5 := Lib.hid (HX3.out.below HX3.out.lt HR5.out)
          have hV5 := own_in hown5
          have hV3 := own_in (own_below HV3.out HR5.out)
          have hix := HIX.out j hjk
          obtain ⟨bb, hbb⟩ : ∃ bb, bb = decide (j = i') := ⟨_, rfl⟩
          rw [← hbb] at hix
          have hji : ((j : Int) == (i' : Int)) = bb := by
            rw [hbb, Bool.eq_iff_iff, beq_iff_eq, decide_eq_true_iff]
            omega
          have HSA : Hid (Calls Tryd.prog 12 #[.slice V5 T c5, .slice (some ⟨g, 0, none⟩) T c3] W5.drew fun e w' => e = .returned (.bool bb) ∧ ∃ q, w' = (W5.drew).drewN q) := by
            have h := Same_d V5 (some ⟨g, 0, none⟩) T c5 c3 (fb j) (fb i') W5.drew (hV5.below (below_drewN (Below.refl _ _) 1)).row (hV3.below (below_drewN (Below.refl _ _) 1)).row
            rw [hix] at h
            exact h
          have hxx : (bb != bb) = false := by simp
          have eT : ((T : Int) != (T : Int)) = false := by simp
          clear hix hbb hV5 hV3 hown5 hb5 HBa HRa HBr HXr HVr z0 z1 z2 z3 z4 z5
          have z4 := (HX5.out.cell 4).trans (show _ = some (Value.int .i64 (i' : Int)) from rfl)
          go_wp2_with fail
          refine wp_region_held_drew (S := fun W' => W'.cell? ⟨w.heap.size, 4, none⟩ = some (.int .i64 (i' : Int))) (by kernel_rfl) ?_ (fun hHeld => ?_)
          · exact (HX5.out.cell 4).trans (show _ = some (Value.int .i64 (i' : Int)) from rfl)
          refine wpAnyH_take (i := 0) (oi := { dst := some 60, op := _, type := _, pos := _, after := _, guard := _ }) (v := ?_) rfl (by kernel_rfl) (by kernel_rfl) (by kernel_rfl) (fun _ _ _ h => h) (Or.inl ⟨by rfl, ?_⟩) (by assumption) ?_
          rotate_left
          · intro w' hSw
            try dsimp only at hSw
            go_simp
            try with_reducible rfl
          try simp only [Act.put, List.setIfInBounds_toArray, List.set_cons_zero, List.set_cons_succ]
          refine wpAnyH_take (i := 1) (oi := { dst := some 61, op := _, type := _, pos := _, after := _, guard := _ }) (v := ?_) rfl (by kernel_rfl) (by kernel_rfl) (by kernel_rfl) (fun _ _ _ h => h) (Or.inl ⟨by rfl, ?_⟩) (by assumption) ?_
          rotate_left
          · intro w' hSw
            try dsimp only at hSw
            go_simp
            try with_reducible rfl
          try simp only [Act.put, List.setIfInBounds_toArray, List.set_cons_zero, List.set_cons_succ]
          refine wpAnyH_take (i := 2) (oi := { dst := some 62, op := _, type := _, pos := _, after := _, guard := _ }) (v := ?_) rfl (by kernel_rfl) (by kernel_rfl) (by kernel_rfl) (fun _ _ _ h => h) (Or.inl ⟨by rfl, ?_⟩) (by assumption) ?_
          rotate_left
          · intro w' hSw
            try dsimp only at hSw
            go_simp
            try with_reducible rfl
          try simp only [Act.put, List.setIfInBounds_toArray, List.set_cons_zero, List.set_cons_succ]
          refine wpAnyH_take (i := 3) (oi := { dst := some 63, op := _, type := _, pos := _, after := _, guard := _ }) (v := ?_) rfl (by kernel_rfl) (by kernel_rfl) (by kernel_rfl) (fun _ _ _ h => h) (Or.inl ⟨by rfl, ?_⟩) (by assumption) ?_
          rotate_left
          · intro w' hSw
            try dsimp only at hSw
            go_simp
            try with_reducible rfl
          try simp only [Act.put, List.setIfInBounds_toArray, List.set_cons_zero, List.set_cons_succ]
          refine wpAnyH_take (i := 4) (oi := { dst := some 64, op := _, type := _, pos := _, after := _, guard := _ }) (v := ?_) rfl (by kernel_rfl) (by kernel_rfl) (by kernel_rfl) (fun _ _ _ h => h) (Or.inl ⟨by rfl, ?_⟩) (by assumption) ?_
          rotate_left
          · intro w' hSw
            try dsimp only at hSw
            go_simp
            try with_reducible rfl
          try simp only [Act.put, List.setIfInBounds_toArray, List.set_cons_zero, List.set_cons_succ]
          refine wpAnyH_take (i := 5) (oi := { dst := some 65, op := _, type := _, pos := _, after := _, guard := _ }) (v := ?_) rfl (by kernel_rfl) (by kernel_rfl) (by kernel_rfl) (fun _ _ _ h => h) (Or.inl ⟨by rfl, ?_⟩) (by assumption) ?_
          rotate_left
          · intro w' hSw
            try dsimp only at hSw
            go_simp
            try with_reducible rfl
          try simp only [Act.put, List.setIfInBounds_toArray, List.set_cons_zero, List.set_cons_succ]
          refine wpAnyH_take (i := 6) (oi := { dst := some 66, op := _, type := _, pos := _, after := _, guard := _ }) (v := ?_) rfl (by kernel_rfl) (by kernel_rfl) (by kernel_rfl) (fun _ _ _ h => h) (Or.inl ⟨by rfl, ?_⟩) (by assumption) ?_
          rotate_left
          · intro w' hSw
            try dsimp only at hSw
            go_simp
            try with_reducible rfl
          try simp only [Act.put, List.setIfInBounds_toArray, List.set_cons_zero, List.set_cons_succ]
          refine wpAnyH_take (i := 7) (oi := { dst := some 67, op := _, type := _, pos := _, after := _, guard := _ }) (v := ?_) rfl (by kernel_rfl) (by kernel_rfl) (by kernel_rfl) (fun _ _ _ h => h) (Or.inl ⟨by rfl, ?_⟩) (by assumption) ?_
          rotate_left
          · intro w' hSw
            try dsimp only at hSw
            go_simp
            try with_reducible rfl
          try simp only [Act.put, List.setIfInBounds_toArray, List.set_cons_zero, List.set_cons_succ]
          refine wpAnyH_take (i := 8) (oi := { dst := some 68, op := _, type := _, pos := _, after := _, guard := _ }) (v := ?_) rfl (by kernel_rfl) (by kernel_rfl) (by kernel_rfl) (fun _ _ _ h => h) (Or.inl ⟨by rfl, ?_⟩) (by assumption) ?_
          rotate_left
          · intro w' hSw
            try dsimp only at hSw
            go_simp
            try with_reducible rfl
          try simp only [Act.put, List.setIfInBounds_toArray, List.set_cons_zero, List.set_cons_succ]
          refine wpAnyH_take (i := 9) (oi := { dst := some 69, op := _, type := _, pos := _, after := _, guard := _ }) (v := ?_) rfl (by kernel_rfl) (by kernel_rfl) (by kernel_rfl) (fun _ _ _ h => h) (Or.inl ⟨by rfl, ?_⟩) (by assumption) ?_
          rotate_left
          · intro w' hSw
            try dsimp only at hSw
            go_simp
            try with_reducible rfl
          try simp only [Act.put, List.setIfInBounds_toArray, List.set_cons_zero, List.set_cons_succ]
          refine wpAnyH_take (i := 10) (oi := { dst := some 70, op := _, type := _, pos := _, after := _, guard := _ }) (v := ?_) rfl (by kernel_rfl) (by kernel_rfl) (by kernel_rfl) (fun _ _ _ h => h) (Or.inl ⟨by rfl, ?_⟩) (by assumption) ?_
          rotate_left
          · intro w' hSw
            try dsimp only at hSw
            go_simp
            try with_reducible rfl
          try simp only [Act.put, List.setIfInBounds_toArray, List.set_cons_zero, List.set_cons_succ]
          refine wpAnyH_take (i := 11) (oi := { dst := some 71, op := _, type := _, pos := _, after := _, guard := _ }) (v := ?_) rfl (by kernel_rfl) (by kernel_rfl) (by kernel_rfl) (fun _ _ _ h => h) (Or.inl ⟨by rfl, ?_⟩) (by assumption) ?_
          rotate_left
          · intro w' hSw
            try dsimp only at hSw
            go_simp
            try with_reducible rfl
          try simp only [Act.put, List.setIfInBounds_toArray, List.set_cons_zero, List.set_cons_succ]
          refine wpAnyH_take (i := 13) (oi := { dst := some 73, op := _, type := _, pos := _, after := _, guard := _ }) (v := ?_) rfl (by kernel_rfl) (by kernel_rfl) (by kernel_rfl) (fun _ _ _ h => h) (Or.inl ⟨by rfl, ?_⟩) (by assumption) ?_
          rotate_left
          · intro w' hSw
            try dsimp only at hSw
            go_simp
            try with_reducible rfl
          try simp only [Act.put, List.setIfInBounds_toArray, List.set_cons_zero, List.set_cons_succ]
          refine wpAnyH_take (i := 14) (oi := { dst := some 74, op := _, type := _, pos := _, after := _, guard := _ }) (v := ?_) rfl (by kernel_rfl) (by kernel_rfl) (by kernel_rfl) (fun _ _ _ h => h) (Or.inl ⟨by rfl, ?_⟩) (by assumption) ?_
          rotate_left
          · intro w' hSw
            try dsimp only at hSw
            go_simp
            try with_reducible rfl
          try simp only [Act.put, List.setIfInBounds_toArray, List.set_cons_zero, List.set_cons_succ]
          refine wpAnyH_take (i := 15) (oi := { dst := some 75, op := _, type := _, pos := _, after := _, guard := _ }) (v := ?_) rfl (by kernel_rfl) (by kernel_rfl) (by kernel_rfl) (fun _ _ _ h => h) (Or.inl ⟨by rfl, ?_⟩) (by assumption) ?_
          rotate_left
          · intro w' hSw
            try dsimp only at hSw
            go_simp
            try with_reducible rfl
          try simp only [Act.put, List.setIfInBounds_toArray, List.set_cons_zero, List.set_cons_succ]
          refine wpAnyH_take (i := 16) (oi := { dst := some 76, op := _, type := _, pos := _, after := _, guard := _ }) (v := ?_) rfl (by kernel_rfl) (by kernel_rfl) (by kernel_rfl) (fun _ _ _ h => h) (Or.inl ⟨by rfl, ?_⟩) (by assumption) ?_
          rotate_left
          · intro w' hSw
            try dsimp only at hSw
            go_simp
            try with_reducible rfl
          try simp only [Act.put, List.setIfInBounds_toArray, List.set_cons_zero, List.set_cons_succ]
          refine wpAnyH_ready (rs := [12]) (by kernel_rfl) (by simp) ?_
          refine AllReadyH.cons (o := { dst := some 72, op := _, type := _, pos := _, after := _, guard := _ }) rfl (fun K hK => ?_) AllReadyH.nil
          go_simp
          go_at_call 12
          refine HSA.out.mono ?_
          rintro e _ ⟨rfl, q12, rfl⟩
          try go_wp2_with fail
          refine hK.out _ _ ?_ (fun hHeld => ?_)
          · exact (HX5.out.cell 4).trans (show _ = some (Value.int .i64 (i' : Int)) from rfl)
          clear hK K
          try simp only [Act.put, List.setIfInBounds_toArray, List.set_cons_zero, List.set_cons_succ]
          refine wpAnyH_take (i := 17) (oi := { dst := some 77, op := _, type := _, pos := _, after := _, guard := _ }) (v := ?_) rfl (by kernel_rfl) (by kernel_rfl) (by kernel_rfl) (fun _ _ _ h => h) (Or.inl ⟨by rfl, ?_⟩) (by assumption) ?_
          rotate_left
          · intro w' hSw
            try dsimp only at hSw
            go_simp
            try with_reducible rfl
          try simp only [Act.put, List.setIfInBounds_toArray, List.set_cons_zero, List.set_cons_succ]
          refine wpAnyH_take (i := 18) (oi := { dst := some 78, op := _, type := _, pos := _, after := _, guard := _ }) (v := ?_) rfl (by kernel_rfl) (by kernel_rfl) (by kernel_rfl) (fun _ _ _ h => h) (Or.inl ⟨by rfl, ?_⟩) (by assumption) ?_
          rotate_left
          · intro w' hSw
            try dsimp only at hSw
            go_simp
            try with_reducible rfl
          try simp only [Act.put, List.setIfInBounds_toArray, List.set_cons_zero, List.set_cons_succ]
          refine wpAnyH_done (by kernel_rfl) ?_ _
          go_wp2
          go_roundw
          case rel => exact ⟨j + 1, by omega, by go_num, below_drewN HR5.out _⟩
          case measure => simp [intOf]; omega
        case neg =>
          obtain rfl : k' = j := by omega
          have hjki : ¬ (k' : Int) < k' := by omega
          obtain ⟨bA, oA, rfl, hbA, hcA⟩ := HG.out.top (by omega)
          obtain ⟨iw, hwi, hw0, hw1, hw2⟩ := info_parts info_words
          have hlt0 := HXr.out.lt
          have hlt0 : w.heap.size < wr.heap.size := HXr.out.lt
          have hB2 : Below w.heap.size w ((wr.alloc (.cells #[.int .i64 (n' : Int), .int .i64 (k' : Int), .int .i64 (s' : Int), .int .i64 (b' : Int), .int .i64 (i' : Int), .slice (some ⟨bA, oA, none⟩) n cap] 26)).alloc (.cells #[] 56)) := (HBr.out.alloc HBr.out.size _).alloc (by have := HBr.out.size; simp; omega) _
          have HNW := Lib.hid (GIn.news (HG.out.below hB2))
          have HB2' := Lib.hid hB2
          have HYt := Lib.hid (Blk.new wr 26 #[.int .i64 (n' : Int), .int .i64 (k' : Int), .int .i64 (s' : Int), .int .i64 (b' : Int), .int .i64 (i' : Int), .slice (some ⟨bA, oA, none⟩) n cap])
          have HE0 : Hid (((wr.alloc (.cells #[.int .i64 (n' : Int), .int .i64 (k' : Int), .int .i64 (s' : Int), .int .i64 (b' : Int), .int .i64 (i' : Int), .slice (some ⟨bA, oA, none⟩) n cap] 26)).alloc (.cells #[] 56)).ownsRow (wr.heap.size + 1) 56 1 (.slice (some ⟨wr.heap.size + 1, 0, none⟩) 0 0) 0 []) := by
            have h := World.ownsRow_made (base := wr.heap.size + 1) (e := 56) (size := 1) (wr.alloc (.cells #[.int .i64 (n' : Int), .int .i64 (k' : Int), .int .i64 (s' : Int), .int .i64 (b' : Int), .int .i64 (i' : Int), .slice (some ⟨bA, oA, none⟩) n cap] 26)) #[] 0 (by simp) (Nat.zero_le _) rfl
            have e : (wr.alloc (.cells #[.int .i64 (n' : Int), .int .i64 (k' : Int), .int .i64 (s' : Int), .int .i64 (b' : Int), .int .i64 (i' : Int), .slice (some ⟨bA, oA, none⟩) n cap] 26)).heap.size = wr.heap.size + 1 := by simp
            rw [e] at h
            exact h
          have HYt2 : Hid (Blk ((wr.alloc (.cells #[.int .i64 (n' : Int), .int .i64 (k' : Int), .int .i64 (s' : Int), .int .i64 (b' : Int), .int .i64 (i' : Int), .slice (some ⟨bA, oA, none⟩) n cap] 26)).alloc (.cells #[] 56)) wr.heap.size 26 #[.int .i64 (n' : Int), .int .i64 (k' : Int), .int .i64 (s' : Int), .int .i64 (b' : Int), .int .i64 (i' : Int), .slice (some ⟨bA, oA, none⟩) n cap]) := HYt.out.below HYt.out.lt ((Below.refl _ _).alloc (Nat.le_refl _) _)
          have HO5 : Hid ((Value.slice (some ⟨wr.heap.size + 1, 0, none⟩) 0 0).ownBlock ≠ some wr.heap.size) := fun e => by
            have e2 : some (wr.heap.size + 1) = some wr.heap.size := e
            injection e2 with e2
            omega
          clear hB2 hcA
          go_wp2_with (at_builtin; refine wpList_append_own _ rfl _ _ 24 rfl (wr.heap.size + 1) 56 iw (.slice none 0 0) 1 24 Tryd.underlying24 hwi hw0 hw1 hw2 rfl (by decide) _ 0 [] rfl HE0.out ⟨bA, oA, none⟩ n cap (vs (slg RA RL RC) n) rfl (by rw [vs_length, Nat.mul_one]) HNW.out (vs_one fun i hi => rfl) (by unfold maxLen; omega) (by omega) (by simp) ?_; intro v5 w5 hown5 hgrow5 hnil5; rw [Nat.zero_add, List.nil_append] at hown5; obtain ⟨gs_, cg, rfl, hgs, hgsl, hcg1, hcg2⟩ := own_made hown5 hn1; have hY5 := HYt2.out.kept hgrow5 ⟨HYt2.out.lt, HO5.out⟩; have y5 := (hY5.cell 5).trans (show _ = some (Value.slice (some ⟨bA, oA, none⟩) n cap) from rfl); have f5 := hY5.frozen 5)
          have hR5 : Below W3.heap.size W3 w5 := ((hbr.out.alloc hbr.out.size _).alloc (by have := hbr.out.size; simp; omega) _).grown hgrow5 (by have := hbr.out.size; simp; omega) (fun k hk => by
            have e2 : some (wr.heap.size + 1) = some k := hk
            injection e2 with e2
            have := hbr.out.size
            omega)
          have hwr := hbr.out.size
          obtain ⟨W6, hW6⟩ : ∃ W6, W6 = w5.setCell ⟨wr.heap.size, 5, none⟩ (.slice (some ⟨gs_, 0, none⟩) n cg) := ⟨_, rfl⟩
          have HYt6 : Hid (Blk W6 wr.heap.size 26 #[.int .i64 (n' : Int), .int .i64 (k' : Int), .int .i64 (s' : Int), .int .i64 (b' : Int), .int .i64 (i' : Int), .slice (some ⟨gs_, 0, none⟩) n cg]) := by rw [hW6]; exact hY5.set_ 5 _
          have HO6 : Hid (W6.ownsRow (wr.heap.size + 1) 56 1 (.slice (some ⟨gs_, 0, none⟩) n cg) n (vs (slg RA RL RC) n)) := by rw [hW6]; exact own_setCellS hown5 (by omega) 5 _
          have HR6 : Hid (Below W3.heap.size W3 W6) := by rw [hW6]; exact hR5.setCell hwr _
          have hgl6 : gs_ < W6.heap.size := by rw [hW6]; simp; exact hgsl
          rw [← hW6]
          have hlt3 := HX3.out.lt
          generalize wr.heap.size = xt at *
          clear hW6 hown5 hgrow5 hnil5 hY5 y5 f5 hR5 HYt2 HYt HE0 HNW HB2' HO5 HXr HBr HVr hbr z0 z1 z2 z3 z4 z5 hgsl
          have y5 := (HYt6.out.cell 5).trans (show _ = some (Value.slice (some ⟨gs_, 0, none⟩) n cg) from rfl)
          have z5 := ((HX3.out.below HX3.out.lt HR6.out).cell 5).trans (show _ = some (Value.slice (some ⟨bA, oA, none⟩) n cap) from rfl)
          obtain ⟨b0, o0, eA0, hb0, hc0⟩ := (HG.out.row 0 hn1).2.2 (by omega)
          have HB6 := Lib.hid (HB3.out.trans (HR6.out.mono HB3.out.size))
          have hG6 := HG.out.below HB6.out
          have cA : W6.cell? ⟨bA, oA, none⟩ = some (.slice (some ⟨b0, o0, none⟩) q (RC 0)) := by
            obtain ⟨b, o, e, _, hc⟩ := hG6.at_ hn1
            injection e with e
            injection e with e1 e2
            subst e1 e2
            rw [← eA0, ← hRL0]
            exact hc
          have hgr0 := hG6.row 0 hn1
          rw [eA0, hRL0] at hgr0
          have HNR := Lib.hid (GRow.news ((hgr0.drewN 1).below ((Below.refl _ _).alloc (Nat.le_refl _) (.cells #[] 54))))
          have HGR0 := Lib.hid hgr0.1
          have hn0 : (0 : Int) < (n : Int) := by omega
          have hnN : 0 < n := by omega
          have hs3 : xt < W6.heap.size := HYt6.out.lt
          have HYb : Hid (Blk (W6.drew.alloc (.cells #[] 54)) xt 26 #[.int .i64 (n' : Int), .int .i64 (k' : Int), .int .i64 (s' : Int), .int .i64 (b' : Int), .int .i64 (i' : Int), .slice (some ⟨gs_, 0, none⟩) n cg]) := (show Blk W6.drew xt 26 #[.int .i64 (n' : Int), .int .i64 (k' : Int), .int .i64 (s' : Int), .int .i64 (b' : Int), .int .i64 (i' : Int), .slice (some ⟨gs_, 0, none⟩) n cg] from HYt6.out).below hs3 ((Below.refl _ _).alloc (Nat.le_refl _) _)
          have hs1 : w.heap.size < W6.heap.size := (HX3.out.below HX3.out.lt HR6.out).lt
          have hs2 : bA < W6.heap.size := by have := HB6.out.size; omega
          obtain ⟨iu, hui, hu0, hu1, hu2⟩ := info_parts info_u32
          have hb67 : Below W6.heap.size W6 (W6.drew.alloc (.cells #[] 54)) := (below_drewN (Below.refl _ _) 1).alloc (Nat.le_refl _) _
          have y5b := (hb67.cell (p := ⟨xt, 5, none⟩) hs3).trans y5
          have z5b := (hb67.cell (p := ⟨w.heap.size, 5, none⟩) hs1).trans z5
          have cAb := (hb67.cell (p := ⟨bA, oA, none⟩) hs2).trans cA
          have hsz := hb67.size
          have HO6b := Lib.hid (own_below HO6.out hb67)
          clear hG6 hgr0 hb0 hc0 hb67
          refine wp_region_held_drew (S := fun W' => W'.cell? ⟨xt, 5, none⟩ = some (.slice (some ⟨gs_, 0, none⟩) n cg) ∧ W'.cell? ⟨w.heap.size, 5, none⟩ = some (.slice (some ⟨bA, oA, none⟩) n cap) ∧ W'.cell? ⟨bA, oA, none⟩ = some (.slice (some ⟨b0, o0, none⟩) q (RC 0))) (by kernel_rfl) ?_ (fun hHeld => ?_)
          · exact ⟨y5, z5, cA⟩
          refine wpAnyH_take (i := 0) (oi := { dst := some 86, op := _, type := _, pos := _, after := _, guard := _ }) (v := ?_) rfl (by kernel_rfl) (by kernel_rfl) (by kernel_rfl) (fun _ _ _ h => h) (Or.inl ⟨by rfl, ?_⟩) (by assumption) ?_
          rotate_left
          · intro w' hSw
            try dsimp only at hSw
            go_simp
            try with_reducible rfl
          try simp only [Act.put, List.setIfInBounds_toArray, List.set_cons_zero, List.set_cons_succ]
          refine wpAnyH_take (i := 1) (oi := { dst := some 87, op := _, type := _, pos := _, after := _, guard := _ }) (v := ?_) rfl (by kernel_rfl) (by kernel_rfl) (by kernel_rfl) (fun _ _ _ h => h) (Or.inl ⟨by rfl, ?_⟩) (by assumption) ?_
          rotate_left
          · intro w' hSw
            try dsimp only at hSw
            go_simp
            try with_reducible rfl
          try simp only [Act.put, List.setIfInBounds_toArray, List.set_cons_zero, List.set_cons_succ]
          refine wpAnyH_take (i := 3) (oi := { dst := some 89, op := _, type := _, pos := _, after := _, guard := _ }) (v := ?_) rfl (by kernel_rfl) (by kernel_rfl) (by kernel_rfl) (fun _ _ _ h => h) (Or.inl ⟨by rfl, ?_⟩) (by assumption) ?_
          rotate_left
          · intro w' hSw
            try dsimp only at hSw
            go_simp
            try with_reducible rfl
          try simp only [Act.put, List.setIfInBounds_toArray, List.set_cons_zero, List.set_cons_succ]
          refine wpAnyH_take (i := 4) (oi := { dst := some 90, op := _, type := _, pos := _, after := _, guard := _ }) (v := ?_) rfl (by kernel_rfl) (by kernel_rfl) (by kernel_rfl) (fun _ _ _ h => h) (Or.inl ⟨by rfl, ?_⟩) (by assumption) ?_
          rotate_left
          · intro w' hSw
            try dsimp only at hSw
            go_simp
            try with_reducible rfl
          try simp only [Act.put, List.setIfInBounds_toArray, List.set_cons_zero, List.set_cons_succ]
          refine wpAnyH_take (i := 5) (oi := { dst := some 91, op := _, type := _, pos := _, after := _, guard := _ }) (v := ?_) rfl (by kernel_rfl) (by kernel_rfl) (by kernel_rfl) (fun _ _ _ h => h) (Or.inl ⟨by rfl, ?_⟩) (by assumption) ?_
          rotate_left
          · intro w' hSw
            try dsimp only at hSw
            go_simp
            try with_reducible rfl
          try simp only [Act.put, List.setIfInBounds_toArray, List.set_cons_zero, List.set_cons_succ]
          refine wpAnyH_take (i := 6) (oi := { dst := some 92, op := _, type := _, pos := _, after := _, guard := _ }) (v := ?_) rfl (by kernel_rfl) (by kernel_rfl) (by kernel_rfl) (fun _ _ _ h => h) (Or.inl ⟨by rfl, ?_⟩) (by assumption) ?_
          rotate_left
          · intro w' hSw
            try dsimp only at hSw
            go_simp
            try with_reducible rfl
          try simp only [Act.put, List.setIfInBounds_toArray, List.set_cons_zero, List.set_cons_succ]
          refine wpAnyH_ready (rs := [2]) (by kernel_rfl) (by simp) ?_
          refine AllReadyH.cons (o := { dst := some 88, op := _, type := _, pos := _, after := _, guard := _ }) rfl (fun K hK => ?_) AllReadyH.nil
          go_simp
          try go_wp2_with fail
          refine hK.out _ _ ?_ (fun hHeld => ?_)
          · exact ⟨y5b, z5b, cAb⟩
          clear hK K
          try simp only [Act.put, List.setIfInBounds_toArray, List.set_cons_zero, List.set_cons_succ]
          refine wpAnyH_ready (rs := [7]) (by kernel_rfl) (by simp) ?_
          refine AllReadyH.cons (o := { dst := some 93, op := _, type := _, pos := _, after := _, guard := _ }) rfl (fun K hK => ?_) AllReadyH.nil
          refine step_append_some (by rfl) (.tmp 88) (.tmp 92) 56 (by rfl) W6.heap.size 54 iu (.int .u32 0) 4 Tryd.underlying56 hui hu0 hu1 hu2 rfl W6.heap.size 0 0 [] (by rfl) (World.ownsRow_made W6.drew #[] 0 (Nat.le_refl _) (Nat.zero_le _) rfl) ⟨b0, o0, none⟩ q (RC 0) (gs (R 0)) (by rfl) (by rw [gs_length, HGR0.out, Nat.mul_one]) HNR.out (gs_one _) (by unfold maxLen; omega) (by omega) (by simp) ?_
          intro g7 c7 w7 hown7 hgrow7
          rw [Nat.zero_add, List.nil_append] at hown7
          have y57 := (hgrow7.cell_far ⟨xt, 5, none⟩ (Nat.lt_of_lt_of_le hs3 hsz) (fun e => by injection e with e; have e2 : xt = W6.heap.size := e; omega)).trans y5b
          have z57 := (hgrow7.cell_far ⟨w.heap.size, 5, none⟩ (Nat.lt_of_lt_of_le hs1 hsz) (fun e => by injection e with e; have e2 : w.heap.size = W6.heap.size := e; omega)).trans z5b
          have cA7 := (hgrow7.cell_far ⟨bA, oA, none⟩ (Nat.lt_of_lt_of_le hs2 hsz) (fun e => by injection e with e; have e2 : bA = W6.heap.size := e; omega)).trans cAb
          have hO7 := HO6b.out.kept hgrow7 (.inr (own_some (by omega)))
          have f7 := hO7.frozenAt 0
          have c7s := (hO7.cellAt 0 (by omega)).trans (vs_at _ (by omega))
          refine hK.out _ _ ?_ (fun hHeld => ?_)
          · exact ⟨y57, z57, cA7⟩
          clear hK K
          try simp only [Act.put, List.setIfInBounds_toArray, List.set_cons_zero, List.set_cons_succ]
          refine wpAnyH_take (i := 8) (oi := { dst := some 94, op := _, type := _, pos := _, after := _, guard := _ }) (v := ?_) rfl (by kernel_rfl) (by kernel_rfl) (by kernel_rfl) (fun _ _ _ h => h) (Or.inl ⟨by rfl, ?_⟩) (by assumption) ?_
          rotate_left
          · intro w' hSw
            try dsimp only at hSw
            go_simp
            try with_reducible rfl
          try simp only [Act.put, List.setIfInBounds_toArray, List.set_cons_zero, List.set_cons_succ]
          refine wpAnyH_ready (rs := [9]) (by kernel_rfl) (by simp) ?_
          refine AllReadyH.cons (o := { dst := none, op := _, type := _, pos := _, after := _, guard := _ }) rfl (fun K hK => ?_) AllReadyH.nil
          go_simp
          try go_wp2_with fail
          refine hK.out _ _ ?_ (fun hHeld => ?_)
          · exact ⟨(World.cell?_of_block (Below.heap_setCell _ _ _ _ (by show xt ≠ gs_; omega))).trans y57, (World.cell?_of_block (Below.heap_setCell _ _ _ _ (by show w.heap.size ≠ gs_; omega))).trans z57, (World.cell?_of_block (Below.heap_setCell _ _ _ _ (by show bA ≠ gs_; omega))).trans cA7⟩
          clear hK K
          try simp only [Act.put, List.setIfInBounds_toArray, List.set_cons_zero, List.set_cons_succ]
          refine wpAnyH_done (by kernel_rfl) ?_ _
          have hg7 := hown7.lt g7 rfl
          have hg7a : W6.heap.size ≤ g7 := hg7.1
          have hc7 := own_made hown7 (by omega)
          have hc7 : q ≤ c7 ∧ c7 ≤ maxLen := by
            obtain ⟨_, c, e, _, _, h1, h2⟩ := hc7
            injection e with _ _ e
            omega
          have hB7 : Below W3.heap.size W3 w7 := ((below_drewN HR6.out 1).alloc HR6.out.size (.cells #[] 54)).grown hgrow7 (Nat.le_trans HR6.out.size hsz) (fun k hk => by injection hk with hk; have := HR6.out.size; omega)
          obtain ⟨W8, hW8⟩ : ∃ W8, W8 = w7.setCell ⟨gs_, 0, none⟩ (.slice (some ⟨g7, 0, none⟩) q c7) := ⟨_, rfl⟩
          obtain ⟨RA1, hRA1⟩ : ∃ f : Nat → Option Addr, f = GRws.upd RA 0 (some ⟨g7, 0, none⟩) := ⟨_, rfl⟩
          obtain ⟨RC1, hRC1⟩ : ∃ f : Nat → Nat, f = GRws.upd RC 0 c7 := ⟨_, rfl⟩
          have HR8 : Hid (Below W3.heap.size W3 W8) := by rw [hW8]; exact hB7.setCell (by show W3.heap.size ≤ gs_; omega) _
          have HO8 : Hid (W8.ownsRow (xt + 1) 56 1 (.slice (some ⟨gs_, 0, none⟩) n cg) n (vs (slg RA1 RL RC1) n)) := by
            rw [hW8]
            have h := (hO7.stored 0 (.slice (some ⟨g7, 0, none⟩) q c7)).1
            rw [vs_set (g := slg RA1 RL RC1) (fun j hj => by
              rw [hRA1, hRC1]
              unfold slg GRws.upd
              by_cases e : j = 0
              · subst e
                rw [if_pos rfl, if_pos rfl, if_pos rfl, hRL0]
              · rw [if_neg e, if_neg e, if_neg e])] at h
            exact h
          have HU8 : Hid (W8.ownsRow W6.heap.size 54 1 (.slice (some ⟨g7, 0, none⟩) q c7) q (gs (R 0))) := by rw [hW8]; exact own_setCellN hown7 (own_some (by omega)) 0 _
          have HY8 : Hid (Blk W8 xt 26 #[.int .i64 (n' : Int), .int .i64 (k' : Int), .int .i64 (s' : Int), .int .i64 (b' : Int), .int .i64 (i' : Int), .slice (some ⟨gs_, 0, none⟩) n cg]) := by rw [hW8]; exact (HYb.out.kept hgrow7 ⟨HYb.out.lt, fun e => by injection e with e; omega⟩).setOther (by show xt ≠ gs_; omega) _
          rw [← hW8]
          have hg78 : g7 < W8.heap.size := by rw [hW8]; simp; exact hg7.2
          have hgs8 : gs_ < W8.heap.size := (HO8.out.lt gs_ rfl).2
          have hxg : xt ≠ g7 := by omega
          have hgg : gs_ ≠ g7 := by omega
          have hw3g : W3.heap.size ≤ g7 := by have := HR6.out.size; omega
          have y8 := (HY8.out.cell 5).trans (show _ = some (Value.slice (some ⟨gs_, 0, none⟩) n cg) from rfl)
          have t8 : W8.cell? ⟨gs_, 0, none⟩ = some (.slice (some ⟨g7, 0, none⟩) q c7) := (HO8.out.cellAt 0 (by omega)).trans ((vs_at _ (by omega)).trans (by rw [hRA1, hRC1]; unfold slg; rw [GRws.upd_at, GRws.upd_at, hRL0]))
          have x8 := (HU8.out.cellAt 0 (by omega)).trans (gs_at (by rw [HGR0.out]; omega))
          have fx8 := HU8.out.frozenAt 0
          have hgx := gone_x (gg (R 0) 0)
          obtain ⟨x1, hx1⟩ : ∃ x, x = gg (R 0) 0 + ofG 1 := ⟨_, rfl⟩
          rw [← hx1] at hgx
          have HX1 := Lib.hid hx1
          have hq0 : 0 < q := by omega
          have HY9 : Hid (Blk (W8.setCell ⟨g7, 0, none⟩ (.int .u32 x1.n)) xt 26 #[.int .i64 (n' : Int), .int .i64 (k' : Int), .int .i64 (s' : Int), .int .i64 (b' : Int), .int .i64 (i' : Int), .slice (some ⟨gs_, 0, none⟩) n cg]) := HY8.out.setOther hxg _
          have y0 := (HY9.out.cell 0).trans (show _ = some (Value.int .i64 (n' : Int)) from rfl)
          have y1 := (HY9.out.cell 1).trans (show _ = some (Value.int .i64 (k' : Int)) from rfl)
          have y2 := (HY9.out.cell 2).trans (show _ = some (Value.int .i64 (s' : Int)) from rfl)
          have y3 := (HY9.out.cell 3).trans (show _ = some (Value.int .i64 (b' : Int)) from rfl)
          have y4 := (HY9.out.cell 4).trans (show _ = some (Value.int .i64 (i' : Int)) from rfl)
          have y9 := (HY9.out.cell 5).trans (show _ = some (Value.slice (some ⟨gs_, 0, none⟩) n cg) from rfl)
          have HCP := Lib.hid hc7
          have HRA1 := Lib.hid (And.intro hRA1 hRC1)
          clear hW8 hown7 hgrow7 hO7 y57 z57 cA7 f7 c7s y5b z5b cAb hHeld hB7 hg7 hg7a hc7 hRA1 hRC1 hx1 y5 z5 cA HNR HO6 HO6b HYb hs1 hs2 hs3 hsz HYt6 hgl6
          go_wp2_with fail
          obtain ⟨W9, hW9⟩ : ∃ W9, W9 = W8.setCell ⟨g7, 0, none⟩ (.int .u32 x1.n) := ⟨_, rfl⟩
          have HR9 : Hid (Below W3.heap.size W3 W9) := by rw [hW9]; exact HR8.out.setCell hw3g _
          have HO9 : Hid (W9.ownsRow (xt + 1) 56 1 (.slice (some ⟨gs_, 0, none⟩) n cg) n (vs (slg RA1 RL RC1) n)) := by rw [hW9]; exact own_setCellN HO8.out (own_some hgg) 0 _
          have HU9 : Hid (W9.ownsRow W6.heap.size 54 1 (.slice (some ⟨g7, 0, none⟩) q c7) q (gs ((R 0).set 0 x1))) := by rw [hW9, ← gs_set]; exact (HU8.out.stored 0 _).1
          rw [← hW9]
          have HB9 := Lib.hid (HB3.out.trans (HR9.out.mono HB3.out.size))
          obtain ⟨R1, hR1⟩ : ∃ f : Nat → List G, f = GRws.upd R 0 ((R 0).set 0 x1) := ⟨_, rfl⟩
          have HG9 : Hid (GIn W9 (some ⟨gs_, 0, none⟩) n cg RA1 RL RC1 R1) := ⟨hcg1, hcg2, fun _ => ⟨gs_, 0, rfl, (HO9.out.lt gs_ rfl).2, fun r hr => by rw [Nat.zero_add, HO9.out.cellAt r (by omega), vs_at _ hr]; rfl⟩, fun r hr => by
              rw [HRA1.out.1, hR1]
              by_cases e : r = 0
              · subst e
                rw [GRws.upd_at, GRws.upd_at, hRL0]
                exact GRow.of_own HU9.out
              · unfold GRws.upd
                rw [if_neg e, if_neg e]
                exact (HG.out.row r hr).below HB9.out, fun r hr => by
              rw [HRA1.out.2]
              by_cases e : r = 0
              · subst e
                rw [GRws.upd_at, hRL0]
                exact HCP.out
              · unfold GRws.upd
                rw [if_neg e]
                exact HG.out.cp r hr⟩
          have hne := HNE.out R1 (fun r hr => by
              rw [hR1]
              by_cases e : r = 0
              · subst e
                rw [GRws.upd_at, List.length_set]
                exact HGR0.out
              · unfold GRws.upd
                rw [if_neg e]
                exact HRl.out r (by have := HN.out; omega)) (by
              rw [hR1, GRws.upd_at]
              exact set_gone (by rw [HGR0.out]; omega) HX1.out)
          have hne2 : decide (gb R1 = fb i') = false := decide_eq_false hne
          clear hW9 y0 y1 y2 y3 y4 y8 y9 t8 x8 fx8 hgx HY9 HY8 HU8 HO8 HR8 hR1 HU9 HO9 hne
          refine (HWs.out W9 (some ⟨gs_, 0, none⟩) cg RA1 RC1 R1 (HT.out.below HB9.out rfl) HG9.out (HC.out.below HB9.out)).mono ?_
          rintro e Wa ⟨Va, ca, rfl, howna, hba⟩
          have HRa := Lib.hid (HR9.out.trans (hba.mono HR9.out.size))
          have HBa := Lib.hid (HB9.out.trans (hba.mono HB9.out.size))
          have HVa := Lib.hid (own_in howna)
          have HV3a := Lib.hid (own_in (own_below HV3.out HRa.out))
          clear howna hba HR9 HB9 HG9
          obtain ⟨z, hz, ez⟩ := andM a 65535 (by omega)
          have ez2 : bits BinOp.and IntKind.i64 a 65535 = (z : Int) := ez
          clear ez
          obtain ⟨d, hd⟩ : ∃ d, d = z % T := ⟨_, rfl⟩
          have hd1 : (z : Int) % (T : Int) = (d : Int) := by omega
          have hd2 : (z : Int).tmod (T : Int) = (d : Int) := by rw [Int.tmod_eq_emod_of_nonneg (by omega)]; exact hd1
          have hdT : d < T := by rw [hd]; exact Nat.mod_lt _ hT0
          have hTz : ((T : Int) == 0) = false := by rw [beq_eq_false_iff_ne]; omega
          have hd3 : IntKind.i64.wrap (d : Int) = (d : Int) := IntWalk.i64_in _ (by omega)
          have hTc := HV3a.out.le
          have hcM := HV3a.out.max
          have hdc : d ≤ c3 := by omega
          have hdci : (d : Int) ≤ (c3 : Int) := by omega
          have hd0 : (0 : Int) ≤ (d : Int) := by omega
          have hCT := HCT.out d hdT
          have hrd : RowIn Wa (some ⟨g, 0, none⟩) d c3 ((fb i').take d) := ⟨HV3a.out.row.take (by omega), hdc, hcM⟩
          have HP1 := Lib.hid (ParseE_c (HT.out.below HBa.out rfl) hrd (by omega))
          generalize prE ((fb i').take d) = ea at *
          have hea : (ea != 0) = true := by rw [bne_iff_ne]; exact hCT
          clear hrd hCT hd
          go_wp2_with fail
          refine HP1.out.mono ?_
          rintro e Wb ⟨p0, p1, p2, p3, p4, A5, n5, c5, C6, n6, c6, rfl, hbb⟩
          have hac := (Below.refl Wb.heap.size Wb).alloc (Nat.le_refl _) (.cells #[.int .i64 p0, .int .i64 p1, .int .i64 p2, .int .i64 p3, .int .i64 p4, .slice A5 n5 c5] 26)
          have HRb := Lib.hid (HRa.out.trans ((hbb.trans (hac.mono hbb.size)).mono HRa.out.size))
          have HVb := Lib.hid (HVa.out.below (hbb.trans (hac.mono hbb.size)))
          clear hbb hac HP1 HRa HBa HVa HV3a
          go_wp2_with fail
          obtain ⟨Wc, hWc⟩ : ∃ Wc, Wc = Wb.alloc (.cells #[.int .i64 p0, .int .i64 p1, .int .i64 p2, .int .i64 p3, .int .i64 p4, .slice A5 n5 c5] 26) := ⟨_, rfl⟩
          rw [← hWc] at HRb HVb ⊢
          clear hWc
          have hV3c := own_in (own_below HV3.out HRb.out)
          refine (Copy_c (some ⟨g, 0, none⟩) T c3 (fb i') Wc hV3c.row (by omega)).mono ?_
          rintro e Wd ⟨Ad, cd, rfl, hownd, hbd⟩
          have hae := (Below.refl Wd.heap.size Wd).alloc (Nat.le_refl _) (.cells #[.int .u8 y.n] 5)
          have HOd := Lib.hid (own_below hownd hae)
          have HAe := Lib.hid hae
          have hNe := Lib.hid (one_new Wd 5 (.int .u8 y.n))
          have hcw := hbd.size
          obtain ⟨i8, h8i, h80, h81, h82⟩ := info_parts info_u8c
          have HBd := Lib.hid hbd
          clear hbd hownd hae hV3c
          go_wp2_with (at_builtin; refine wpList_append_own _ rfl _ _ 27 rfl Wc.heap.size 5 i8 (.int .u8 0) 1 1 Tryd.underlying27 h8i h80 h81 h82 rfl (by decide) _ T (cs (fb i')) rfl HOd.out ⟨Wd.heap.size, 0, none⟩ 1 1 [.int .u8 y.n] rfl rfl hNe.out (cs_one [y]) (by unfold maxLen; omega) (by omega) (by simp; omega) ?_; intro ve we howne hgrowe hnile; obtain ⟨Ae, ce, rfl, hge, hgel, hce1, hce2⟩ := own_made howne (by omega))
          have hge2 : (Wd.alloc (.cells #[.int .u8 y.n] 5)).grownBy we (Value.slice Ad T cd).ownBlock := hgrowe
          have hce : Below Wc.heap.size Wc we := (HBd.out.alloc hcw _).grown hge2 (by simp; omega) (fun k hk => (HOd.out.lt k hk).1)
          have hRe := HRb.out.trans (hce.mono HRb.out.size)
          have HRe := Lib.hid hRe
          have HVe := Lib.hid (HVb.out.below hce)
          have hBe : Below w.heap.size w we := HB3.out.trans (hRe.mono HB3.out.size)
          have howne2 : we.ownsRow Wc.heap.size 5 1 (.slice (some ⟨Ae, 0, none⟩) (T + 1) ce) (T + 1) (cs (fb i' ++ [y])) := by rw [cs_append]; exact howne
          have HP2 := Lib.hid (ParseE_c (HT.out.below hBe rfl) (own_in howne2) (by omega))
          rw [HMR.out] at HP2
          clear hgrowe hnile howne howne2 hge2 hce hRe hBe HRb HVb HOd HAe hNe HBd
          refine HP2.out.mono ?_
          rintro e Wf ⟨q0, q1, q2, q3, q4, A8, n8, c8, C9, n9, c9, rfl, hbf⟩
          have haf := (Below.refl Wf.heap.size Wf).alloc (Nat.le_refl _) (.cells #[.int .i64 q0, .int .i64 q1, .int .i64 q2, .int .i64 q3, .int .i64 q4, .slice A8 n8 c8] 26)
          have hbg := hbf.trans (haf.mono hbf.size)
          have HRg := Lib.hid (HRe.out.trans (hbg.mono HRe.out.size))
          have HVg := Lib.hid (HVe.out.below hbg)
          clear hbf haf hbg HP2 HRe HVe
          go_wp2_with fail
          obtain ⟨Wg, hWg⟩ : ∃ Wg, Wg = Wf.alloc (.cells #[.int .i64 q0, .int .i64 q1, .int .i64 q2, .int .i64 q3, .int .i64 q4, .slice A8 n8 c8] 26) := ⟨_, rfl⟩
          rw [← hWg] at HRg HVg ⊢
          clear hWg
          have HBg := Lib.hid (HB3.out.trans (HRg.out.mono HB3.out.size))
          have hV3g := own_in (own_below HV3.out HRg.out)
          have HSB : Hid (Calls Tryd.prog 12 #[.slice Va T ca, .slice (some ⟨g, 0, none⟩) T c3] Wg fun e w' => e = .returned (.bool false) ∧ ∃ q, w' = Wg.drewN q) := by
            have h := Same_d Va (some ⟨g, 0, none⟩) T ca c3 (gb R1) (fb i') Wg HVg.out.row hV3g.row
            rw [hne2] at h
            exact h
          clear hV3g
          refine HSB.out.mono ?_
          rintro e _ ⟨rfl, q25, rfl⟩
          go_wp2
          go_ret
          exact ⟨rfl, below_drewN HBg.out _⟩
end Go.Proofs.YtbgdoemealddpaaDoor
