/-
  THE CONTRACTS OF Expand: the document's. No conditions.
-/
import Derived.Test.YthnbflkoipnakaaGreatDoorMtr
import Derived.Deep.LoopGhost
import Derived.Deep.DeepCutAuto
import Derived.Lib.MinMax
namespace Go.Proofs.YthnbflkoipnakaaGreatDoor
open Go.RowKit
set_option maxRecDepth 1000000
set_option linter.unusedVariables false

/-- what tokens expand to, or the error -/
def ExEnd (w : World) (R : Except Nat (List F)) (e : Ending) (w' : World) : Prop :=
  (∃ z : Nat, R = .error z ∧ e = .returned (.tuple #[.slice none 0 0, .int .i64 z]) ∧ Below w.heap.size w w') ∨
  (∃ (o : List F) (A : Option Addr) (n c : Nat), R = .ok o ∧ n = o.length ∧ e = .returned (.tuple #[.slice A n c, .int .i64 0]) ∧ w'.ownsRow w.heap.size 5 1 (.slice A n c) n (cs o) ∧ Below w.heap.size w w')
theorem drop_tg {T : List Tok} {k : Nat} (h : k < T.length) : T.drop k = tg T k :: T.drop (k + 1) := by
  rw [List.drop_eq_getElem_cons h]
  simp [tg, h]
/-- bytes that came out, apart from what stood -/
structure OutR (w wr : World) (A : Option Addr) (n c : Nat) (o : List F) : Prop where
  own : wr.ownsRow w.heap.size 5 1 (.slice A n c) n (cs o)
  bel : Below w.heap.size w wr
theorem OutR.below {w wr w' : World} {A : Option Addr} {n c : Nat} {o : List F} (h : OutR w wr A n c o) (hb : Below wr.heap.size wr w') : OutR w w' A n c o := ⟨own_below h.own hb, h.bel.trans (hb.mono h.bel.size)⟩
theorem OutR.len {w wr : World} {A : Option Addr} {n c : Nat} {o : List F} (h : OutR w wr A n c o) : o.length = n := own_len h.own
theorem OutR.grown {w wr w' : World} {A : Option Addr} {n c c' g : Nat} {o : List F} {x : F} {ob : Obj} (h : OutR w wr A n c o) (hown : w'.ownsRow w.heap.size 5 1 (.slice (some ⟨g, 0, none⟩) (n + 1) c') (n + 1) (cs o ++ [.int .u8 x.n]))
    (hg : (wr.alloc ob).grownBy w' (Value.slice A n c).ownBlock) : OutR w w' (some ⟨g, 0, none⟩) (n + 1) c' (o ++ [x]) := by
  refine ⟨by rw [cs_append]; exact hown, (h.bel.alloc h.bel.size ob).grown hg (h.bel.alloc h.bel.size ob).size (fun k hk => (h.own.lt k hk).1)⟩
/-- a box made since stays -/
theorem OutR.boxKeeps {w wr w' : World} {A : Option Addr} {n c q : Nat} {o : List F} {ob : Obj} {t : TypeId} {C : Array Value} (h : OutR w wr A n c o) (hb : Blk wr q t C) (hs : (Value.slice A n c).ownBlock ≠ some q) (hg : (wr.alloc ob).grownBy w' (Value.slice A n c).ownBlock) : Blk w' q t C := by
  have hl := hb.lt
  unfold Blk at hb ⊢
  rw [hg.block q (by rw [World.size_alloc]; omega) hs.symm, Below.heap_alloc _ _ _ hl]
  exact hb
set_option maxHeartbeats 2000000 in
theorem RExp_c (A : Option Addr) (n c : Nat) (T : List Tok) (w : World) (h : TRow w A n T) (hn : n ≤ 100000) (most : Int) (M : Nat) (hm : max most 0 = (M : Int)) (hM : M ≤ 1000000) :
    Calls Tryz.prog 25 #[.slice A n c, .int .i64 most] w fun e w' => ExEnd w (exF M T []) e w' := by
  obtain ⟨i0, hi, hz0, hz1, hz2⟩ := info_parts info_u8
  have HH := Lib.hid h
  have HLEN := Lib.hid h.len
  have HM := Lib.hid hm
  clear h hm
  go_enter Tryz.func25, Tryz.ntmps25
  go_wp2
  have hR0 : Hid (OutR w (w.alloc (.cells #[] 5)) (some ⟨w.heap.size, 0, none⟩) 0 0 []) := ⟨World.ownsRow_made w #[] 0 (Nat.le_refl _) (Nat.zero_le _) rfl, (Below.refl _ _).alloc (Nat.le_refl _) _⟩
  generalize w.alloc (.cells #[] 5) = W0 at *
  go_loopg [6, 7] (n + 1) (fun gk ov iv wr => ∃ (i N cc : Nat) (OA : Option Addr) (o : List F), ov = .slice OA N cc ∧ iv = .int .i64 i ∧ i ≤ n ∧ Hid (gk + i = n + 1) ∧ N ≤ M ∧ Hid (OutR w wr OA N cc o) ∧ Hid (exF M (T.drop i) o = exF M T []))
  case atStart => exact ⟨0, 0, 0, _, [], rfl, rfl, by omega, rfl, by omega, hR0, rfl⟩
  case round =>
    obtain ⟨i, N, cc, OA, o, rfl, rfl, hin, hgk, hNM, hR, hE⟩ := hrel
    by_cases hlt : i < n
    · have hlt2 : (i : Int) < (n : Int) := by omega
      have h1 := HH.out.below hR.out.bel
      obtain ⟨b, off, rfl, hl, c0, c1, c2⟩ := h1.at_ hlt
      have hwf := HH.out.wf i hlt
      have hr1 := wf_i64 hwf.1
      have hr2 := wf_i64 hwf.2
      have hst : Hid (exF M T [] = bndL (tkF M (tg T i) o) (exF M (T.drop (i + 1)))) := by unfold Hid; rw [← hE.out, drop_tg (by rw [HLEN.out]; exact hlt)]; rfl
      obtain ⟨t, ht⟩ : ∃ t, t = tg T i := ⟨_, rfl⟩
      rw [← ht] at c0 c1 c2 hst hr1 hr2
      obtain ⟨x, len, dist⟩ := t
      dsimp only at c0 c1 c2 hr1 hr2
      obtain ⟨gf, hgf⟩ : ∃ gf, gf = gk - 1 := ⟨_, rfl⟩
      have hms : Hid (gf < gk ∧ gf + (i + 1) = n + 1) := by unfold Hid; have := hgk.out; omega
      clear hgf
      have hNl : o.length = N := hR.out.len
      have HNL := Lib.hid hNl
      have hRa := hR.out.below ((Below.refl _ wr).alloc (Nat.le_refl _) (.cells #[.int .u8 x.n, .int .i64 len, .int .i64 dist] 53))
      have k8 := Blk.new wr 53 #[.int .u8 x.n, .int .i64 len, .int .i64 dist]
      have hs8 : (Value.slice OA N cc).ownBlock ≠ some wr.heap.size := fun e => by have := (hR.out.own.lt _ e).2; omega
      have HRa := Lib.hid hRa
      have K8 := Lib.hid k8
      have HS8 := Lib.hid hs8
      clear h1 hwf ht hRa k8 hs8 hNl
      by_cases h0 : len = 0
      · have hz : (len == 0) = true := by rw [h0]; rfl
        by_cases hfull : N < M
        · have hge : ¬ most ≤ (N : Int) := by have := HM.out; omega
          have hst2 : Hid (exF M (T.drop (i + 1)) (o ++ [x]) = exF M T []) := by
            unfold Hid
            rw [hst.out]
            unfold tkF
            rw [if_pos h0, if_pos (by rw [HNL.out]; exact hfull)]; rfl
          clear h0
          go_wp2_with (first
            | (at_builtin; refine wpList_append_lies _ rfl (.tmp 28) (.tmp 31) 22 rfl w.heap.size 5 i0 (.int .u8 0) 1 1 Tryz.underlying22 hi hz0 hz1 hz2 rfl (by decide) (.slice OA N cc) N (cs o) rfl (HRa.out.own.alloc _) ⟨wr.heap.size + 1, 0, none⟩ 1 1 [_] rfl rfl (by have := one_cell (wr.alloc (.cells #[.int .u8 x.n, .int .i64 len, .int .i64 dist] 53)) (.int .u8 x.n) 5; simpa using this) (by intro u hu; simp at hu; subst hu; rfl) (by omega) (by unfold maxLen; omega) (by omega) (by have := hR.out.bel.size; simp; omega) _ rfl ?_; intro g' c' w' hown' hg' hat' _))
          have hR2 := Lib.hid (HRa.out.grown (x := x) hown' hg')
          clear hown' hg' hat'
          go_wp2
          go_roundg gf
          case measure => exact hms.out.1
          case rel => exact ⟨i + 1, N + 1, c', _, o ++ [x], rfl, by go_num, by omega, hms.out.2, by omega, hR2, hst2⟩
        · have hge : most ≤ (N : Int) := by have := HM.out; omega
          have hres : Hid (exF M T [] = .error 6) := by
            unfold Hid
            rw [hst.out]
            unfold tkF
            rw [if_pos h0, if_neg (by rw [HNL.out]; exact hfull)]; rfl
          clear h0
          go_wp2
          go_ret2
          exact .inl ⟨6, hres.out, rfl, HRa.out.bel⟩
      · have hz : (len == 0) = false := by rw [beq_eq_false_iff_ne]; exact h0
        by_cases hm3 : IsM ⟨x, len, dist⟩
        · obtain ⟨m1, m2, m3, m4⟩ := hm3
          dsimp only at m1 m2 m3 m4
          obtain ⟨ln, rfl⟩ : ∃ ln : Nat, len = (ln : Int) := ⟨len.toNat, by omega⟩
          obtain ⟨dn, rfl⟩ : ∃ dn : Nat, dist = (dn : Int) := ⟨dist.toNat, by omega⟩
          have g1 : ¬ (ln : Int) < 3 := by omega
          have g2 : ¬ (258 : Int) < (ln : Int) := by omega
          have g3 : ¬ (dn : Int) < 1 := by omega
          have g4 : ¬ (32768 : Int) < (dn : Int) := by omega
          have hst2 : Hid (exF M T [] = bndL (if o.length < dn then .error 35 else agL M dn ln o) (exF M (T.drop (i + 1)))) := by
            unfold Hid
            rw [hst.out]
            unfold tkF
            rw [if_neg h0, if_pos ⟨m1, m2, m3, m4⟩]; rfl
          by_cases hfar : N < dn
          · have g5 : (N : Int) < (dn : Int) := by omega
            have hres : Hid (exF M T [] = .error 35) := by unfold Hid; rw [hst2.out, if_pos (by rw [HNL.out]; exact hfar)]; rfl
            clear h0 m1 m2 m3 m4 hfar
            go_wp2
            go_ret2
            exact .inl ⟨35, hres.out, rfl, HRa.out.bel⟩
          · have g5 : ¬ (N : Int) < (dn : Int) := by omega
            have hst3 : Hid (exF M T [] = bndL (agL M dn ln o) (exF M (T.drop (i + 1)))) := by unfold Hid; rw [hst2.out, if_neg (by rw [HNL.out]; exact hfar)]
            have hdn1 : 1 ≤ dn := by omega
            have hNd : dn ≤ N := by omega
            clear h0 m1 m2 m3 m4 hfar
            go_wp2
            have hbx : Hid (Blk (wr.alloc (.cells #[.int .u8 x.n, .int .i64 (ln : Int), .int .i64 (dn : Int)] 53)) wr.heap.size 53 #[.int .u8 x.n, .int .i64 (ln : Int), .int .i64 (dn : Int)]) := K8
            generalize wr.alloc (.cells #[.int .u8 x.n, .int .i64 (ln : Int), .int .i64 (dn : Int)] 53) = W1 at *
            generalize wr.heap.size = q8 at *
            go_loopg [6, 9] ln (fun gj ov jv wr => ∃ (j N2 cc2 : Nat) (OA2 : Option Addr) (o2 : List F), ov = .slice OA2 N2 cc2 ∧ jv = .int .i64 j ∧ j ≤ ln ∧ Hid (gj + j = ln) ∧ N2 ≤ M ∧ dn ≤ N2 ∧ Hid (OutR w wr OA2 N2 cc2 o2) ∧ Hid (Blk wr q8 53 #[.int .u8 x.n, .int .i64 (ln : Int), .int .i64 (dn : Int)]) ∧ Hid ((Value.slice OA2 N2 cc2).ownBlock ≠ some q8) ∧ Hid (agL M dn (ln - j) o2 = agL M dn ln o))
            case atStart => exact ⟨0, N, cc, OA, o, rfl, rfl, by omega, by unfold Hid; omega, hNM, hNd, HRa, hbx, HS8, rfl⟩
            case round =>
              obtain ⟨j, N2, cc2, OA2, o2, rfl, rfl, hj, hgj, hN2M, hdN2, hR2, hB2, hS2, hA2⟩ := hrel
              obtain ⟨⟨d0, d1, d2⟩, _⟩ := hB2.out.trip
              have hl2 := hR2.out.len
              by_cases hjl : j < ln
              · have hjl2 : (j : Int) < (ln : Int) := by omega
                by_cases hfull : N2 < M
                · have hge : ¬ most ≤ (N2 : Int) := by have := HM.out; omega
                  obtain ⟨zz, hzz⟩ : ∃ zz, zz = N2 - dn := ⟨_, rfl⟩
                  obtain ⟨b1, o1, hOA, _, q1⟩ := (own_in hR2.out.own).row.at_ (k := zz) (by omega)
                  obtain ⟨y, hy⟩ : ∃ y, y = gt o2 zz := ⟨_, rfl⟩
                  rw [← hy] at q1
                  have hst4 : Hid (agL M dn (ln - (j + 1)) (o2 ++ [y]) = agL M dn ln o) := by
                    unfold Hid
                    rw [← hA2.out, show ln - j = ln - (j + 1) + 1 by omega, agL, if_pos (by rw [hl2]; exact hfull), hl2, hy, hzz]
                  have hw1 : (N2 : Int) - (dn : Int) = (zz : Int) := by omega
                  have hzl : (zz : Int) < (N2 : Int) := by omega
                  have hms2 : Hid (gk - 1 < gk ∧ gk - 1 + (j + 1) = ln) := by unfold Hid; have := hgj.out; omega
                  subst hOA
                  clear hy hzz hl2
                  go_wp2_with (first
                    | (at_builtin; refine wpList_append_lies _ rfl (.tmp 66) (.tmp 75) 22 rfl w.heap.size 5 i0 (.int .u8 0) 1 1 Tryz.underlying22 hi hz0 hz1 hz2 rfl (by decide) (.slice (some ⟨b1, o1, none⟩) N2 cc2) N2 (cs o2) rfl (hR2.out.own.alloc _) ⟨wr.heap.size, 0, none⟩ 1 1 [_] rfl rfl (one_cell wr _ _) (by intro u hu; simp at hu; subst hu; rfl) (by omega) (by unfold maxLen; omega) (by omega) (by have := hR2.out.bel.size; simp; omega) _ rfl ?_; intro g' c' w' hown' hg' hat' _))
                  have hR3 := Lib.hid (hR2.out.grown (x := y) hown' hg')
                  have hB3 := Lib.hid (hR2.out.boxKeeps hB2.out hS2.out hg')
                  have hS3 : Hid ((Value.slice (some ⟨g', 0, none⟩) (N2 + 1) c').ownBlock ≠ some q8) := fun e => by
                    have e1 := ob_t e
                    have e2 := hB2.out.lt
                    rcases hat' with e3 | e3
                    · exact hS2.out (by rw [e3, e1])
                    · simp at e3; omega
                  clear hown' hg' hat'
                  go_wp2
                  go_roundg (gk - 1)
                  case measure => exact hms2.out.1
                  case rel => exact ⟨j + 1, N2 + 1, c', _, o2 ++ [y], rfl, by go_num, by omega, hms2.out.2, by omega, by omega, hR3, hB3, hS3, hst4⟩
                · have hge : most ≤ (N2 : Int) := by have := HM.out; omega
                  have hres : Hid (exF M T [] = .error 6) := by
                    unfold Hid
                    rw [hst3.out, ← hA2.out, show ln - j = ln - (j + 1) + 1 by omega, agL, if_neg (by rw [hl2]; exact hfull)]; rfl
                  clear hl2
                  go_wp2
                  go_ret2
                  exact .inl ⟨6, hres.out, rfl, hR2.out.bel⟩
              · have hjl2 : ¬ (j : Int) < (ln : Int) := by omega
                have hst5 : Hid (exF M (T.drop (i + 1)) o2 = exF M T []) := by
                  unfold Hid
                  rw [hst3.out, ← hA2.out, show ln - j = 0 by omega]; rfl
                clear hl2
                go_wp2
                go_roundg gf
                case measure => exact hms.out.1
                case rel => exact ⟨i + 1, N2, cc2, OA2, o2, rfl, by go_num, by omega, hms.out.2, hN2M, hR2, hst5⟩
        · have hres : Hid (exF M T [] = .error 23) := by
            unfold Hid
            rw [hst.out]
            unfold tkF
            rw [if_neg h0, if_neg hm3]; rfl
          have hcs : len < 3 ∨ (¬ len < 3 ∧ 258 < len) ∨ (¬ len < 3 ∧ ¬ 258 < len ∧ dist < 1) ∨ (¬ len < 3 ∧ ¬ 258 < len ∧ ¬ dist < 1 ∧ 32768 < dist) := by
            unfold IsM at hm3
            dsimp only at hm3
            omega
          clear h0 hm3
          rcases hcs with g1 | ⟨g1, g2⟩ | ⟨g1, g2, g3⟩ | ⟨g1, g2, g3, g4⟩
          all_goals
            go_wp2
            go_ret2
            exact .inl ⟨23, hres.out, rfl, HRa.out.bel⟩
    · have hin2 : ¬ (i : Int) < (n : Int) := by omega
      have hres : Hid (exF M T [] = .ok o) := by
        unfold Hid
        rw [← hE.out, List.drop_of_length_le (by rw [HLEN.out]; omega)]; rfl
      go_wp2
      go_ret2
      exact .inr ⟨o, OA, N, cc, hres.out, hR.out.len.symm, rfl, hR.out.own, hR.out.bel⟩
end Go.Proofs.YthnbflkoipnakaaGreatDoor
