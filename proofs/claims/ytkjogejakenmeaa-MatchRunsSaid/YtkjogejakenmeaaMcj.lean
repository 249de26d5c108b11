/-
  THE CONTRACT OF match's Find. No conditions.
-/
import Derived.Test.YtkjogejakenmeaaMci
import Derived.Deep.RegionLaw
namespace Go.Proofs.Ytkjogejakenmeaa
open Go.RowKit
set_option maxRecDepth 1000000
set_option linter.unusedVariables false

theorem cells3 (w : World) (x y z : Value) (t : TypeId) : ∀ j u, [x, y, z][j]? = some u → (w.alloc (.cells #[x, y, z] t)).cell? ((⟨w.heap.size, 0, none⟩ : Addr).add j) = some u := by
  intro j u h
  have hb := Blk.new w t #[x, y, z]
  have : j < 3 := by
    have := (List.getElem?_eq_some_iff.1 h).1
    simpa using this
  rw [show (⟨w.heap.size, 0, none⟩ : Addr).add j = ⟨w.heap.size, j, none⟩ by simp [Addr.add]; omega, hb.cell j]
  rw [List.getElem?_toArray]; exact h
theorem setCell_blkT {w : World} {g : Nat} {t : TypeId} {C : Array Value} (h : Blk w g t C) (i : Nat) (v : Value) : w.setCell ⟨g, i, none⟩ v = w.setRow g (C.setIfInBounds i v) := by
  unfold World.setCell World.setRow
  congr 1
  refine Array.ext_getElem? fun k => ?_
  rw [Array.getElem?_modify, Array.getElem?_modify]
  by_cases e : g = k
  · subst e
    have h2 : w.heap[g]? = some (.cells C t (0, 0)) := h
    simp [h2]
  · simp [e]
theorem setRow_setRowT {w : World} {g : Nat} {t : TypeId} {C : Array Value} (h : Blk w g t C) (D E : Array Value) : (w.setRow g D).setRow g E = w.setRow g E := by
  unfold World.setRow
  congr 1
  refine Array.ext_getElem? fun k => ?_
  rw [Array.getElem?_modify, Array.getElem?_modify, Array.getElem?_modify]
  by_cases e : g = k
  · subst e
    have h2 : w.heap[g]? = some (.cells C t (0, 0)) := h
    simp [h2]
  · simp [e]
theorem set_three {w : World} {g : Nat} {t : TypeId} {x0 x1 x2 : Value} (h : Blk w g t #[x0, x1, x2]) (a b c : Value) :
    ((w.setCell ⟨g, 0, none⟩ a).setCell ⟨g, 1, none⟩ b).setCell ⟨g, 2, none⟩ c = w.setRow g #[a, b, c] := by
  rw [setCell_blkT h, setCell_blkT (h.setRow _), setRow_setRowT h, setCell_blkT (h.setRow _), setRow_setRowT h]
  rfl
theorem tk3_one (t : Tok) : ∀ u ∈ tk3 t, u.oneCell' = true := by
  intro u hu
  simp only [tk3, List.mem_cons, List.not_mem_nil, or_false] at hu
  rcases hu with rfl | rfl | rfl <;> rfl
theorem own_base3 {w : World} {base base' n : Nat} {e : TypeId} {v : Value} {xs : List Value} (h : w.ownsRow base e 3 v n xs) (hb : base' ≤ base) : w.ownsRow base' e 3 v n xs := by
  refine ⟨h.1, ?_⟩
  rcases h.2 with hn | ⟨g, cap, cur, hv, hbg, rest⟩
  · exact .inl hn
  · exact .inr ⟨g, cap, cur, hv, Nat.le_trans hb hbg, rest⟩
set_option maxHeartbeats 2000000 in
theorem Find_c (B : Option Addr) (n cb : Nat) (l : List F) (w : World) (hr : RowIn w B n cb l) (hn : n ≤ 100000) (level : Int) (lev : Nat) (hlev : min (max level 0) 9 = (lev : Int)) :
    Calls Try.prog 16 #[.slice B n cb, .int .i64 level] w fun e w' => ∃ A c N, e = .returned (.slice A N c) ∧ N = (fdF l lev).length ∧ w'.ownsRow w.heap.size 41 3 (.slice A N c) N (tC (fdF l lev)) ∧ Below w.heap.size w w' := by
  obtain ⟨i0, hi, hz0, hz1, hz2⟩ := info_parts info_i32
  obtain ⟨i3, hi3, hy0, hy1, hy2⟩ := info_parts info_tk3
  obtain ⟨mx, hmx⟩ : ∃ mx : Int, mx = max level 0 := ⟨_, rfl⟩
  have hmx1 : max level 0 = mx := hmx.symm
  rw [hmx1] at hlev
  obtain ⟨C, hC, hrun⟩ := run_build_finder B (some ⟨w.heap.size, 0, none⟩) n cb n n lev
  have hl9 : lev ≤ 9 := by omega
  have HR := Lib.hid hr
  have HC := Lib.hid hC
  clear hr hmx hC
  go_enter Try.func16, Try.ntmps16
  go_wp2_with (first
    | (at_make; refine wpList_make_full _ rfl _ _ 47 rfl w.heap.size 21 i0 (.int .i32 0) 1 Try.underlying47 hi hz0 hz1 _ _ _ _ n rfl rfl rfl rfl (by rw [hz2]; omega) (by unfold maxLen; omega) (Nat.le_refl _) ?_; intro w1 hown1 hgrow1)
    | (with_reducible refine wpList_bld (hrun _) (by with_unfolding_all rfl) ?_)
    | (with_reducible refine wpList_bx (run_box_finder _) (by with_unfolding_all rfl) ?_))
  rw [made_l32] at hown1
  have hbw1 : Below w.heap.size w w1 := (Below.refl _ w).grown hgrow1 (Nat.le_refl _) (fun k hk => by cases hk)
  have hgl := (hown1.lt w.heap.size rfl).2
  have hF0 : Fin_ (w1.alloc (.cells C 50)) w.heap.size w1.heap.size w.heap.size B n cb l lev fs0 :=
    ⟨⟨C, Blk.new w1 _ _, HC.out⟩, hown1.alloc _, (HR.out.below hbw1).below ((Below.refl _ w1).alloc (Nat.le_refl _) _), fun h0 b o e => by
      obtain ⟨b', o', e', hl, _⟩ := HR.out.row.2.2 (by omega)
      rw [e'] at e; injection e with e; injection e with e1 _ _
      omega, ⟨by omega, Nat.le_refl _⟩, by omega, ⟨hn, hl9⟩, Nat.zero_le _⟩
  have HBW := Lib.hid (hbw1.alloc hbw1.size (.cells C 50))
  have hpw : w.heap.size < w1.heap.size := hgl
  have HF0 := Lib.hid hF0
  clear hown1 hgrow1 hbw1 hgl hF0 hrun
  generalize hp : w1.heap.size = p at *
  generalize w1.alloc (.cells C 50) = W0 at *
  clear hp
  refine (longest_c HF0.out fs0_ok).mono ?_
  rintro e w2 ⟨rfl, hb2⟩
  obtain ⟨t, ht⟩ : ∃ t, t = lgF l lev fs0 := ⟨_, rfl⟩
  rw [← ht]
  obtain ⟨t1, t2⟩ := t
  unfold tkA
  dsimp only
  have hR0 : FdR w p B n cb l lev (w2.alloc (.cells #[.int .u8 0, .int .i64 (t1 : Nat), .int .i64 (t2 : Nat)] 41)) none 0 0 [] w2.heap.size t1 t2 fs0 :=
    ⟨(HF0.out.below hb2).below ((Below.refl _ w2).alloc (Nat.le_refl _) _), fs0_ok, Blk.new w2 _ _, World.ownsRow_nil _ _ _ _, by have := HF0.out.lt; have := hb2.size; omega, (fun e => by cases e), (HBW.out.trans (hb2.mono HBW.out.size)).alloc (by have := HBW.out.size; have := hb2.size; omega) _, rfl⟩
  have HR0 := Lib.hid hR0
  have HOK0 : Hid (FdOk l fs0 (t1, t2) []) := by unfold Hid; rw [ht]; exact fd0_ok l lev
  have HG0 : Hid (fdGo l lev l.length fs0 (t1, t2) [] = fdF l lev) := by unfold Hid fdF; rw [← ht]
  have HLEN := Lib.hid HR.out.row.len
  clear hR0 hb2 ht
  go_wp2
  generalize w2.alloc (.cells #[.int .u8 0, .int .i64 (t1 : Nat), .int .i64 (t2 : Nat)] 41) = W2 at *
  generalize w2.heap.size = q0 at *
  go_loopg [6, 7] l.length (fun gk tsv tv wr => ∃ (T : List Tok) (A : Option Addr) (N c q u1 u2 : Nat) (s : Fs), tsv = .slice A N c ∧ tv = .pointer (some ⟨q, 0, none⟩) ∧ Hid (FdR w p B n cb l lev wr A N c T q u1 u2 s) ∧ Hid (FdOk l s (u1, u2) T) ∧ Hid (fdGo l lev gk s (u1, u2) T = fdF l lev) ∧ Hid (l.length ≤ s.at_ + gk))
  case atStart => exact ⟨[], none, 0, 0, q0, t1, t2, fs0, rfl, rfl, HR0, HOK0, HG0, by unfold Hid; omega⟩
  case round =>
    obtain ⟨T, A, N, c, q, u1, u2, s, rfl, rfl, hR, hOK, hG, hgk⟩ := hrel
    obtain ⟨c0, c1, _, _, _⟩ := hR.out.fin.cells
    by_cases hlt : s.at_ < n
    · have hln := HLEN.out
      obtain ⟨f, hf⟩ : ∃ f, gk = f + 1 := ⟨gk - 1, by have := hgk.out; omega⟩
      have hfg : Hid (f < gk) := by unfold Hid; omega
      have hgk2 : Hid (l.length ≤ s.at_ + 1 + f) := by unfold Hid; have := hgk.out; omega
      have hst : Hid (fdF l lev = if u1 = 0 ∨ u1 < (lgF l lev (ps1 l s)).1 then fdGo l lev f (ps1 l s) (lgF l lev (ps1 l s)) (T ++ [lone l s.at_])
          else fdGo l lev f (psF l (u1 - 1) (ps1 l s)) (lgF l lev (psF l (u1 - 1) (ps1 l s))) (T ++ [mtch (u1, u2)])) := by
        unfold Hid
        rw [← hG.out, hf, fdGo, if_pos (by omega)]
      obtain ⟨b1, o1, rfl, _, q1⟩ := hR.out.fin.row.row.at_ (k := s.at_) hlt
      obtain ⟨x, hx⟩ : ∃ x, x = gt l s.at_ := ⟨_, rfl⟩
      rw [← hx] at q1
      have HX := Lib.hid hx
      have hRa := hR.out.below ((Below.refl _ wr).alloc (Nat.le_refl _) (.cells #[.int .u8 x.n, .int .i64 0, .int .i64 0] 41))
      have HP := Lib.hid (pass_c hRa.fin hRa.ok 1 (by omega))
      have k8 := Blk.new wr 41 #[.int .u8 x.n, .int .i64 0, .int .i64 0]
      have hqw := hR.out.box.lt
      have hqp := hR.out.q1
      have HRa := Lib.hid hRa
      have hai : ((s.at_ : Nat) : Int) < (n : Int) := by omega
      have hMT := hOK.out.mt.le
      have hu258 : u1 ≤ 258 := hMT.1
      have hal2 : Hid (s.at_ + u1 ≤ n) := by unfold Hid; have := hMT.2; dsimp only at this; omega
      have hN : Hid (N ≤ 100000) := by unfold Hid; have h1 := hOK.out.few; have h2 := hR.out.len; omega
      have hNb := hN.out
      obtain ⟨a, ha⟩ : ∃ a, a = s.at_ := ⟨_, rfl⟩
      rw [← ha] at c1 hai q1
      have HA := Lib.hid ha
      clear hx hRa hf hMT hlt ha hln
      go_wp2_with fail
      refine HP.out.mono ?_
      rintro e w2 ⟨rfl, hF2, hO2⟩
      have hR2 := HRa.out.passed hO2 hF2 (HRa.out.ok.next (l := l))
      have k8b : Blk w2 wr.heap.size 41 #[.int .u8 x.n, .int .i64 0, .int .i64 0] := by
        have hl := k8.lt
        unfold Blk at k8 ⊢
        rw [hO2.block _ hl (by omega) (by omega)]; exact k8
      have HL := Lib.hid (longest_c hR2.fin hR2.ok)
      have HR2 := Lib.hid hR2
      have hsz2 := hO2.size
      rw [World.size_alloc] at hsz2
      generalize hq8 : wr.heap.size = q8 at *
      clear hF2 hO2 hR2 c0 c1 q1 HP HRa k8
      go_wp2_with fail
      refine HL.out.mono ?_
      rintro e w3 ⟨rfl, hb3⟩
      obtain ⟨v, hv⟩ : ∃ v, v = lgF l lev (psF l 1 s) := ⟨_, rfl⟩
      rw [← hv]
      obtain ⟨l1, l2⟩ := v
      have hv' : lgF l lev (ps1 l s) = (l1, l2) := hv.symm
      rw [hv'] at hst
      unfold tkA
      dsimp only at hst ⊢
      have hR3 := (HR2.out.below hb3).below ((Below.refl _ w3).alloc (Nat.le_refl _) (.cells #[.int .u8 0, .int .i64 (l1 : Nat), .int .i64 (l2 : Nat)] 41))
      have k8c := (k8b.below k8b.lt hb3).below (by have := hb3.size; have := k8b.lt; omega) ((Below.refl _ w3).alloc (Nat.le_refl _) (.cells #[.int .u8 0, .int .i64 (l1 : Nat), .int .i64 (l2 : Nat)] 41))
      have k9 := Blk.new w3 41 #[.int .u8 0, .int .i64 (l1 : Nat), .int .i64 (l2 : Nat)]
      obtain ⟨⟨d0, d1, d2⟩, g0, g1, g2⟩ := hR3.box.three
      obtain ⟨⟨e0, e1, e2⟩, _⟩ := k9.three
      obtain ⟨⟨m0, m1, m2⟩, _⟩ := k8c.three
      have HR3 := Lib.hid hR3
      have K8 := Lib.hid k8c
      have K9 := Lib.hid k9
      have hl1 : l1 ≤ 258 := by have := (lgF_ok (l := l) (lev := lev) (HR2.out.ok) (by have := HR2.out.fin.le; have := HLEN.out; omega)).le.1; rw [← hv] at this; exact this
      have hq98 : q8 < w3.heap.size := by have := hb3.size; have := k8b.lt; omega
      have HS9 : Hid ((Value.slice A N c).ownBlock ≠ some w3.heap.size) := fun e => by have := (HR2.out.own.lt _ e).2; have := hb3.size; omega
      have HV := Lib.hid hv'
      clear hR3 k8c k9 hb3 HR2 HL k8b hv hv' hsz2
      generalize hW3 : w3.alloc (.cells #[.int .u8 0, .int .i64 (l1 : Nat), .int .i64 (l2 : Nat)] 41) = W3 at *
      generalize hq9 : w3.heap.size = q9 at *
      by_cases hstop : u1 = 0 ∨ u1 < l1
      · rw [if_pos hstop] at hst
        go_upto_region 8 with fail
        go_cut [49] (fun s49 wx => s49 = .bool true ∧ W3 = wx)
        case first =>
          by_cases h0 : u1 = 0
          · have z1 : ((u1 : Int) == 0) = true := by rw [beq_iff_eq]; omega
            clear hstop h0
            go_wp2_with fail
            go_meet
            case rel => exact ⟨rfl, rfl⟩
          · have z1 : ((u1 : Int) == 0) = false := by rw [beq_eq_false_iff_ne]; omega
            have z2 : (u1 : Int) < (l1 : Int) := by omega
            clear hstop h0
            go_wp2_with fail
            go_meet
            case rel => exact ⟨rfl, rfl⟩
        case rest =>
          obtain ⟨rfl, rfl⟩ := hcut
          go_upto_region 9 with fail
          go_cut [6] (fun s6 wx => ∃ g c', s6 = .slice (some ⟨g, 0, none⟩) (N + 1) c' ∧ Hid (FdR w p (some ⟨b1, o1, none⟩) n cb l lev wx (some ⟨g, 0, none⟩) (N + 1) c' (T ++ [lone l s.at_]) q l1 l2 (psF l 1 s)))
          case first =>
            have hR3d : FdR w p (some ⟨b1, o1, none⟩) n cb l lev (World.drew W3) A N c T q u1 u2 (psF l 1 s) := HR3.out.below (w' := World.drew W3) (below_drewN (Below.refl _ _) 1)
            have HR3d := Lib.hid hR3d
            have y0 : ∀ o, (W3.alloc o).cell? ⟨q9, 0, none⟩ = some (.int .u8 0) := fun o => by rw [World.cell?_alloc_lt _ _ _ K9.out.lt]; exact e0
            have y1 : ∀ o, (W3.alloc o).cell? ⟨q9, 1, none⟩ = some (.int .i64 (l1 : Nat)) := fun o => by rw [World.cell?_alloc_lt _ _ _ K9.out.lt]; exact e1
            have y2 : ∀ o, (W3.alloc o).cell? ⟨q9, 2, none⟩ = some (.int .i64 (l2 : Nat)) := fun o => by rw [World.cell?_alloc_lt _ _ _ K9.out.lt]; exact e2
            clear hR3d hstop
            go_region_law ((refine step_append_lies _ (by rfl) (.tmp 50) (.tmp 52) 22 (by rfl) (p + 1) 41 i3 (.agg #[.int .u8 0, .int .i64 0, .int .i64 0]) 3 24 Try.underlying22 hi3 hy0 hy1 hy2 rfl (by decide) (.slice A N c) N (tC T) (by rfl) ((HR3.out.own.alloc _).drew) ⟨W3.heap.size, 0, none⟩ 1 1 (tk3 ⟨x, 0, 0⟩) (by rfl) rfl (cells3 W3 _ _ _ _) (tk3_one _) (by decide) (by unfold maxLen; omega) (by omega) (by have := HR3.out.own.lt; have := K9.out.lt; simp; omega) (W3.heap.size + 1) (by simp) ?_; intro gg cap' w5 hown5 hg5 hat5 hlt5; have hF5 : FdR w p (some ⟨b1, o1, none⟩) n cb l lev w5 (some ⟨gg, 0, none⟩) (N + 1) cap' (T ++ [⟨x, 0, 0⟩]) q u1 u2 (psF l 1 s) := HR3d.out.grown (t := ⟨x, 0, 0⟩) hown5 hg5 (by simpa using hat5); have k9d := Blk.kept ((K9.out.below K9.out.lt ((Below.refl _ W3).alloc (Nat.le_refl _) (.cells #[.int .u8 x.n, .int .i64 0, .int .i64 0] 41))).drew) hg5 ⟨by have := K9.out.lt; simp; omega, HS9.out⟩; obtain ⟨⟨v0, v1, v2⟩, _⟩ := k9d.three; obtain ⟨⟨r0, r1, r2⟩, s0, s1, s2⟩ := hF5.box.three))
            all_goals
              go_wp2_with fail
              go_meet
              case rel =>
                refine ⟨gg, cap', rfl, ?_⟩
                have h9 := hF5.setBox (u1 := l1) (u2 := l2)
                rw [← set_three hF5.box, show (⟨x, 0, 0⟩ : Tok) = lone l s.at_ by unfold lone; rw [← HX.out]] at h9
                exact h9
          case rest =>
            obtain ⟨g, c', rfl, hR6⟩ := hcut
            have tl := load_tk hR6.out.box rfl
            have hE6 := HV.out
            have hR7 := hR6.out.below ((Below.refl _ wc).alloc (Nat.le_refl _) (.cells #[.int .u8 0, .int .i64 (l1 : Nat), .int .i64 (l2 : Nat)] 41))
            have k10 := Blk.new wc 41 #[.int .u8 0, .int .i64 (l1 : Nat), .int .i64 (l2 : Nat)]
            have hR8 := Lib.hid (hR7.newBox k10 (by have := hR6.out.box.lt; have := hR6.out.q1; omega) (fun e => by have := (hR6.out.own.lt _ e).2; omega))
            have hOK2 : Hid (FdOk l (psF l 1 s) (l1, l2) (T ++ [lone l s.at_])) := by
              have := hOK.out.lone (lev := lev) (by have := HLEN.out; have := HA.out; omega)
              rw [hE6] at this
              exact this
            have hgk3 : Hid (l.length ≤ (psF l 1 s).at_ + f) := by unfold Hid; rw [psF_at]; exact hgk2.out
            have hst2 := Lib.hid hst.out.symm
            clear hE6 hR7 k10 hstop
            go_wp2_with (first
              | (with_reducible refine wpList_ldT tl (by with_unfolding_all rfl) ?_))
            go_roundg f
            case measure => exact hfg.out
            case rel => exact ⟨_, _, _, _, _, l1, l2, psF l 1 s, rfl, rfl, hR8, hOK2, hst2, hgk3⟩
      · rw [if_neg hstop] at hst
        have z1 : ((u1 : Int) == 0) = false := by rw [beq_eq_false_iff_ne]; omega
        have z2 : ¬ (u1 : Int) < (l1 : Int) := by omega
        have hu0 : u1 ≠ 0 := by omega
        obtain ⟨hOK2, hat2⟩ := hOK.out.match_ (lev := lev) hu0
        dsimp only at hOK2 hat2
        obtain ⟨k, hk⟩ : ∃ k, k = u1 - 1 := ⟨_, rfl⟩
        rw [← hk] at hst hOK2 hat2
        have hk1 : (u1 : Int) - 1 = (k : Int) := by omega
        have hkn : (psF l 1 s).at_ + k ≤ n := by rw [psF_at]; have := hal2.out; omega
        have et : tk3 (mtch (u1, u2)) = [.int .u8 0, .int .i64 (u1 : Nat), .int .i64 (u2 : Nat)] := by simp [tk3, mtch, n_zero]
        have HOK2 := Lib.hid hOK2
        have HAT2 := Lib.hid hat2
        have hu1 : 1 ≤ u1 := by omega
        have hgk3 : Hid (l.length ≤ s.at_ + u1 + f) := by unfold Hid; have := hgk2.out; omega
        have HK := Lib.hid hk
        clear hstop hu0 hOK2 hat2 hk m0 m1 m2
        go_wp2_with (first
          | (at_builtin; refine wpList_append_lies _ rfl (.tmp 55) (.tmp 57) 22 rfl (p + 1) 41 i3 (.agg #[.int .u8 0, .int .i64 0, .int .i64 0]) 3 24 Try.underlying22 hi3 hy0 hy1 hy2 rfl (by decide) (.slice A N c) N (tC T) rfl (HR3.out.own.alloc _) ⟨W3.heap.size, 0, none⟩ 1 1 [.int .u8 0, .int .i64 (u1 : Nat), .int .i64 (u2 : Nat)] rfl rfl (cells3 W3 _ _ _ _) (by rw [← et]; exact tk3_one _) (by decide) (by unfold maxLen; omega) (by omega) (by have := K9.out.lt; simp; omega) (W3.heap.size + 1) (by simp) ?_; intro gg cap' w5 hown5 hg5 hat5 hlt5
             have hF5 : FdR w p (some ⟨b1, o1, none⟩) n cb l lev w5 (some ⟨gg, 0, none⟩) (N + 1) cap' (T ++ [mtch (u1, u2)]) q u1 u2 (psF l 1 s) := HR3.out.grown (t := mtch (u1, u2)) (by rw [et]; exact hown5) hg5 (by simpa using hat5)
             obtain ⟨⟨r0, r1, r2⟩, s0, s1, s2⟩ := hF5.box.three
             have HPS := Lib.hid (pass_c hF5.fin hF5.ok k hkn)
             have HF5 := Lib.hid hF5
             clear hown5 hg5 hat5 hlt5 hF5))
        refine HPS.out.mono ?_
        rintro e w6 ⟨rfl, hF6, hO6⟩
        have hR6 := HF5.out.passed hO6 hF6 (FsOk.pass k HF5.out.ok)
        have HL6 := Lib.hid (longest_c hR6.fin hR6.ok)
        have HR6 := Lib.hid hR6
        clear hF6 hO6 hR6 r0 r1 r2 s0 s1 s2 HPS HF5
        go_wp2_with fail
        refine HL6.out.mono ?_
        rintro e w7 ⟨rfl, hb7⟩
        obtain ⟨v, hv⟩ : ∃ v, v = lgF l lev (psF l k (psF l 1 s)) := ⟨_, rfl⟩
        rw [← hv]
        obtain ⟨v1, v2⟩ := v
        have hv' : lgF l lev (psF l k (ps1 l s)) = (v1, v2) := hv.symm
        rw [hv'] at hst HOK2
        unfold tkA
        dsimp only at hst HOK2 ⊢
        have hR7 := HR6.out.below hb7
        have hst7 := store_tk hR7.box rfl (v1 : Int) (v2 : Int)
        have hR8 := hR7.setBox (u1 := v1) (u2 := v2)
        have tl := load_tk hR8.box rfl
        have hR9 := hR8.below ((Below.refl _ _).alloc (Nat.le_refl _) (.cells #[.int .u8 0, .int .i64 (v1 : Nat), .int .i64 (v2 : Nat)] 41))
        have k10 := Blk.new (w7.setRow q #[.int .u8 0, .int .i64 (v1 : Nat), .int .i64 (v2 : Nat)]) 41 #[.int .u8 0, .int .i64 (v1 : Nat), .int .i64 (v2 : Nat)]
        have hR10 := Lib.hid (hR9.newBox k10 (by have := hR8.box.lt; have := hR8.q1; omega) (fun e => by have := (hR8.own.lt _ e).2; omega))
        have hgk4 : Hid (l.length ≤ (psF l k (psF l 1 s)).at_ + f) := by
          unfold Hid
          have h9 := HAT2.out
          rw [show (psF l k (psF l 1 s)).at_ = s.at_ + u1 from h9]
          exact hgk3.out
        have hst2 := Lib.hid hst.out.symm
        clear hR7 hR8 hR9 k10 hb7 hv hv' HL6 HR6
        generalize w7.setRow q #[.int .u8 0, .int .i64 (v1 : Nat), .int .i64 (v2 : Nat)] = W8 at *
        go_wp2_with (first
          | (with_reducible refine wpList_ldT tl (by with_unfolding_all rfl) ?_)
          | (with_reducible refine wpList_stT hst7 (by with_unfolding_all rfl) (by with_unfolding_all rfl) ?_))
        go_roundg f
        case measure => exact hfg.out
        case rel => exact ⟨_, _, _, _, _, v1, v2, psF l k (psF l 1 s), rfl, rfl, hR10, HOK2, hst2, hgk4⟩
    · have hE : Hid (T = fdF l lev) := by
        unfold Hid
        rw [← hG.out]
        cases gk with
        | zero => rfl
        | succ f => unfold fdGo; rw [if_neg (by have := HLEN.out; omega)]
      have hlt2 : ¬ ((s.at_ : Nat) : Int) < (n : Int) := by omega
      generalize s.at_ = a at *
      go_wp2
      go_ret
      have h1 := hR.out.own
      have h2 := hR.out.len
      rw [hE.out] at h1 h2
      exact ⟨A, c, N, rfl, h2.symm, own_base3 h1 (by omega), hR.out.bel⟩
end Go.Proofs.Ytkjogejakenmeaa
