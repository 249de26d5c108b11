/-
  THE CONTRACTS OF match's expand, Expand. No conditions.
-/
import Derived.Test.YtkjogejakenmeaaMcn
namespace Go.Proofs.Ytkjogejakenmeaa
open Go.RowKit
set_option maxRecDepth 1000000
set_option linter.unusedVariables false

set_option maxHeartbeats 2000000 in
theorem mexp_c (A : Option Addr) (n c : Nat) (T : List Tok) (w : World) (h : TRow w A n T) (hT : ∀ i, i < n → TokOk (tg T i)) (hn : n ≤ 100000) (most : Int) (M : Nat) (hm : max most 0 = (M : Int)) (hM : M ≤ 1000000) :
    Calls Try.prog 21 #[.slice A n c, .int .i64 most] w fun e w' => ExEnd w (exF M T []) e w' := by
  obtain ⟨i0, hi, hz0, hz1, hz2⟩ := info_parts info_u8
  have HH := Lib.hid h
  have HLEN := Lib.hid h.len
  clear h
  go_enter Try.func21, Try.ntmps21
  go_wp2
  have hR0 : Hid (OutR w w none 0 0 []) := ⟨World.ownsRow_nil _ _ _ _, Below.refl _ _⟩
  go_loopg [6, 13] (n + 1) (fun gk ov iv wr => ∃ (i N cc : Nat) (OA : Option Addr) (o : List F), ov = .slice OA N cc ∧ iv = .int .i64 i ∧ i ≤ n ∧ Hid (gk + i = n + 1) ∧ N ≤ M ∧ Hid (OutR w wr OA N cc o) ∧ Hid (exF M (T.drop i) o = exF M T []))
  case atStart => exact ⟨0, 0, 0, none, [], rfl, rfl, by omega, rfl, by omega, hR0, rfl⟩
  case round =>
    obtain ⟨i, N, cc, OA, o, rfl, rfl, hin, hgk, hNM, hR, hE⟩ := hrel
    by_cases hlt : i < n
    · have hlt2 : (i : Int) < (n : Int) := by omega
      have h1 := HH.out.below hR.out.bel
      obtain ⟨b, off, rfl, hl, c0, c1, c2⟩ := h1.at_ hlt
      have hwf := HH.out.wf i hlt
      have hok := hT i hlt
      have hst : Hid (exF M T [] = bndL (tkF M (tg T i) o) (exF M (T.drop (i + 1)))) := by unfold Hid; rw [← hE.out, drop_tg (by rw [HLEN.out]; exact hlt)]; rfl
      have HSZ := Lib.hid (fun W => size_c (tg T i) hwf W)
      obtain ⟨sz, hsz⟩ : ∃ sz, sz = szF (tg T i) := ⟨_, rfl⟩
      rw [← hsz] at HSZ
      have hs258 : sz ≤ 258 := by rw [hsz]; exact szF_le _
      obtain ⟨t, ht⟩ : ∃ t, t = tg T i := ⟨_, rfl⟩
      rw [← ht] at c0 c1 c2 hst hok HSZ hsz
      obtain ⟨x, len, dist⟩ := t
      unfold tkV at HSZ
      dsimp only at c0 c1 c2 HSZ
      obtain ⟨gf, hgf⟩ : ∃ gf, gf = gk - 1 := ⟨_, rfl⟩
      have hms : Hid (gf < gk ∧ gf + (i + 1) = n + 1) := by unfold Hid; have := hgk.out; omega
      have HNL := Lib.hid hR.out.len
      have hRa := hR.out.below ((Below.refl _ wr).alloc (Nat.le_refl _) (.cells #[.int .u8 x.n, .int .i64 len, .int .i64 dist] 41))
      have k8 := Blk.new wr 41 #[.int .u8 x.n, .int .i64 len, .int .i64 dist]
      have hs8 : (Value.slice OA N cc).ownBlock ≠ some wr.heap.size := fun e => by have := (hR.out.own.lt _ e).2; omega
      have HRa := Lib.hid hRa
      have K8 := Lib.hid k8
      have HS8 := Lib.hid hs8
      clear h1 hwf ht hRa k8 hs8 hgf
      by_cases h0 : len = 0
      · subst h0
        have hsz1 : sz = 1 := by rw [hsz]; rfl
        subst hsz1
        clear hsz
        go_wp2_with fail
        refine (HSZ.out _).mono ?_
        rintro e w2 ⟨rfl, hb2⟩
        have hR2 := HRa.out.below hb2
        have k2 := K8.out.below K8.out.lt hb2
        obtain ⟨⟨d0, d1, d2⟩, _⟩ := k2.three
        have hK2 := Lib.hid k2
        have HR2 := Lib.hid hR2
        clear hb2 k2 hR2
        by_cases hfull : N < M
        · have hge : ¬ (M : Int) - (N : Int) < ((1 : Nat) : Int) := by omega
          have hge2 : ¬ (M : Int) - (N : Int) < 1 := by omega
          have hst2 : Hid (exF M (T.drop (i + 1)) (o ++ [x]) = exF M T []) := by
            unfold Hid
            rw [hst.out]
            unfold tkF
            rw [if_pos rfl, if_pos (by rw [HNL.out]; exact hfull)]; rfl
          go_wp2_with (first
            | (at_builtin; refine wpList_append_lies _ rfl (.tmp 40) (.tmp 43) 23 rfl w.heap.size 5 i0 (.int .u8 0) 1 1 Try.underlying23 hi hz0 hz1 hz2 rfl (by decide) (.slice OA N cc) N (cs o) rfl (HR2.out.own.alloc _) ⟨w2.heap.size, 0, none⟩ 1 1 [_] rfl rfl (one_cell w2 _ _) (by intro u hu; simp at hu; subst hu; rfl) (by omega) (by unfold maxLen; omega) (by omega) (by have := HR2.out.bel.size; simp; omega) _ rfl ?_; intro g' c' w' hown' hg' hat' _
               have hR3 := Lib.hid (HR2.out.grown (x := x) hown' hg')
               have k3 := HR2.out.boxKeeps hK2.out HS8.out hg'
               obtain ⟨⟨y0, y1, y2⟩, _⟩ := k3.three
               clear hown' hg' hat' k3))
          go_loopw [6, 47] (fun ov jv wr2 => ov = .slice (some ⟨g', 0, none⟩) (N + 1) c' ∧ jv = .int .i64 0 ∧ w' = wr2) (fun _ _ _ => 0)
          case atStart => exact ⟨rfl, rfl, rfl⟩
          case round =>
            obtain ⟨rfl, rfl, rfl⟩ := hrel
            go_wp2
            go_roundg gf
            case measure => exact hms.out.1
            case rel => exact ⟨i + 1, N + 1, c', _, o ++ [x], rfl, by go_num, by omega, hms.out.2, by omega, hR3, hst2⟩
        · have hge : (M : Int) - (N : Int) < ((1 : Nat) : Int) := by omega
          have hge2 : (M : Int) - (N : Int) < 1 := by omega
          have hres : Hid (exF M T [] = .error 6) := by
            unfold Hid
            rw [hst.out]
            unfold tkF
            rw [if_pos rfl, if_neg (by rw [HNL.out]; exact hfull)]; rfl
          go_wp2
          go_ret2
          exact .inl ⟨6, hres.out, rfl, HR2.out.bel⟩
      · have hm3 : IsM ⟨x, len, dist⟩ := by
          rcases hok with h | h
          · exact absurd h h0
          · exact h
        obtain ⟨m1, m2, m3, m4⟩ := hm3
        dsimp only at m1 m2 m3 m4
        obtain ⟨ln, rfl⟩ : ∃ ln : Nat, len = (ln : Int) := ⟨len.toNat, by omega⟩
        obtain ⟨dn, rfl⟩ : ∃ dn : Nat, dist = (dn : Int) := ⟨dist.toNat, by omega⟩
        have hszl : sz = ln := by rw [hsz]; unfold szF; rw [if_neg h0]; show min ((ln : Int).toNat) 258 = ln; omega
        subst hszl
        have hst2 : Hid (exF M T [] = bndL (if o.length < dn then .error 35 else agL M dn sz o) (exF M (T.drop (i + 1)))) := by
          unfold Hid
          rw [hst.out]
          unfold tkF
          rw [if_neg h0, if_pos ⟨m1, m2, m3, m4⟩]; rfl
        have g0 : (0 : Int) < (sz : Int) := by omega
        have gz : ((sz : Int) == 0) = false := by rw [beq_eq_false_iff_ne]; omega
        have hdn1 : 1 ≤ dn := by omega
        clear h0 m1 m2 m3 m4 hsz hok
        by_cases hfar : N < dn
        · have g5 : (N : Int) < (dn : Int) := by omega
          have hres : Hid (exF M T [] = .error 35) := by unfold Hid; rw [hst2.out, if_pos (by rw [HNL.out]; exact hfar)]; rfl
          clear hfar
          go_wp2
          go_ret2
          exact .inl ⟨35, hres.out, rfl, HRa.out.bel⟩
        · have g5 : ¬ (N : Int) < (dn : Int) := by omega
          have hNd : dn ≤ N := by omega
          have hst3 : Hid (exF M T [] = bndL (agL M dn sz o) (exF M (T.drop (i + 1)))) := by unfold Hid; rw [hst2.out, if_neg (by rw [HNL.out]; exact hfar)]
          clear hfar
          go_wp2_with fail
          refine (HSZ.out _).mono ?_
          rintro e w2 ⟨rfl, hb2⟩
          have hR2 := HRa.out.below hb2
          have k2 := K8.out.below K8.out.lt hb2
          have hK2 := Lib.hid k2
          have HR2 := Lib.hid hR2
          obtain ⟨⟨d0, d1, d2⟩, _⟩ := k2.three
          clear hb2 k2 hR2
          by_cases hfull : N + sz ≤ M
          · have hge : ¬ (M : Int) - (N : Int) < (sz : Int) := by omega
            have hst4 : Hid (exF M (T.drop (i + 1)) (cpL dn sz o) = exF M T []) := by unfold Hid; rw [hst3.out, agL_eq, if_pos (.inl (by rw [HNL.out]; exact hfull))]; rfl
            generalize wr.heap.size = q8 at *
            go_wp2
            go_loopg [6, 47] sz (fun gj ov jv wr => ∃ (j N2 cc2 : Nat) (OA2 : Option Addr) (o2 : List F), ov = .slice OA2 N2 cc2 ∧ jv = .int .i64 j ∧ j ≤ sz ∧ Hid (gj + j = sz) ∧ N2 ≤ M ∧ Hid (N2 = N + j) ∧ dn ≤ N2 ∧ Hid (OutR w wr OA2 N2 cc2 o2) ∧ Hid (Blk wr q8 41 #[.int .u8 x.n, .int .i64 (sz : Int), .int .i64 (dn : Int)]) ∧ Hid ((Value.slice OA2 N2 cc2).ownBlock ≠ some q8) ∧ Hid (cpL dn (sz - j) o2 = cpL dn sz o))
            case atStart => exact ⟨0, N, cc, OA, o, rfl, rfl, by omega, by unfold Hid; omega, hNM, rfl, hNd, HR2, hK2, HS8, rfl⟩
            case round =>
              obtain ⟨j, N2, cc2, OA2, o2, rfl, rfl, hj, hgj, hN2M, hN2, hdN2, hR3, hB3, hS3, hA3⟩ := hrel
              obtain ⟨⟨d0, d1, d2⟩, _⟩ := hB3.out.three
              have hl2 := hR3.out.len
              by_cases hjl : j < sz
              · have hjl2 : (j : Int) < (sz : Int) := by omega
                obtain ⟨zz, hzz⟩ : ∃ zz, zz = N2 - dn := ⟨_, rfl⟩
                obtain ⟨b1, o1, hOA, _, q1⟩ := (own_in hR3.out.own).row.at_ (k := zz) (by omega)
                obtain ⟨y, hy⟩ : ∃ y, y = gt o2 zz := ⟨_, rfl⟩
                rw [← hy] at q1
                have hst5 : Hid (cpL dn (sz - (j + 1)) (o2 ++ [y]) = cpL dn sz o) := by
                  unfold Hid
                  rw [← hA3.out, show sz - j = sz - (j + 1) + 1 by omega, cpL, hl2, hy, hzz]
                have hw1 : (N2 : Int) - (dn : Int) = (zz : Int) := by omega
                have hzl : (zz : Int) < (N2 : Int) := by omega
                have hms2 : Hid (gk - 1 < gk ∧ gk - 1 + (j + 1) = sz) := by unfold Hid; have := hgj.out; omega
                have hN3 : Hid (N2 + 1 = N + (j + 1)) := by unfold Hid; have := hN2.out; omega
                have hN3M : N2 + 1 ≤ M := by have := hN2.out; omega
                subst hOA
                clear hy hzz hl2
                go_wp2_with (first
                  | (at_builtin; refine wpList_append_lies _ rfl (.tmp 49) (.tmp 58) 23 rfl w.heap.size 5 i0 (.int .u8 0) 1 1 Try.underlying23 hi hz0 hz1 hz2 rfl (by decide) (.slice (some ⟨b1, o1, none⟩) N2 cc2) N2 (cs o2) rfl (hR3.out.own.alloc _) ⟨wr.heap.size, 0, none⟩ 1 1 [_] rfl rfl (one_cell wr _ _) (by intro u hu; simp at hu; subst hu; rfl) (by omega) (by unfold maxLen; omega) (by omega) (by have := hR3.out.bel.size; simp; omega) _ rfl ?_; intro g' c' w' hown' hg' hat' _))
                have hR4 := Lib.hid (hR3.out.grown (x := y) hown' hg')
                have hB4 := Lib.hid (hR3.out.boxKeeps hB3.out hS3.out hg')
                have hS4 : Hid ((Value.slice (some ⟨g', 0, none⟩) (N2 + 1) c').ownBlock ≠ some q8) := fun e => by
                  have e1 := ob_ e
                  have e2 := hB3.out.lt
                  rcases hat' with e3 | e3
                  · exact hS3.out (by rw [e3, e1])
                  · simp at e3; omega
                clear hown' hg' hat'
                go_wp2
                go_roundg (gk - 1)
                case measure => exact hms2.out.1
                case rel => exact ⟨j + 1, N2 + 1, c', _, o2 ++ [y], rfl, by go_num, by omega, hms2.out.2, hN3M, hN3, by omega, hR4, hB4, hS4, hst5⟩
              · have hjl2 : ¬ (j : Int) < (sz : Int) := by omega
                have hst6 : Hid (exF M (T.drop (i + 1)) o2 = exF M T []) := by
                  unfold Hid
                  rw [← hst4.out, ← hA3.out, show sz - j = 0 by omega]; rfl
                clear hl2
                go_wp2
                go_roundg gf
                case measure => exact hms.out.1
                case rel => exact ⟨i + 1, N2, cc2, OA2, o2, rfl, by go_num, by omega, hms.out.2, hN2M, hR3, hst6⟩
          · have hge : (M : Int) - (N : Int) < (sz : Int) := by omega
            have hres : Hid (exF M T [] = .error 6) := by unfold Hid; rw [hst3.out, agL_eq, if_neg (by rw [HNL.out]; omega)]; rfl
            go_wp2
            go_ret2
            exact .inl ⟨6, hres.out, rfl, HR2.out.bel⟩
    · have hin2 : ¬ (i : Int) < (n : Int) := by omega
      have hres : Hid (exF M T [] = .ok o) := by
        unfold Hid
        rw [← hE.out, List.drop_of_length_le (by rw [HLEN.out]; omega)]; rfl
      go_wp2
      go_ret2
      exact .inr ⟨o, OA, N, cc, hres.out, hR.out.len.symm, rfl, hR.out.own, hR.out.bel⟩
theorem exF_wrong {M : Nat} {T : List Tok} (h : okF T < T.length) : exF M T [] = bndL (exF M (T.take (okF T)) []) fun _ => .error 23 := by
  have h1 := okF_end h
  have e : T = T.take (okF T) ++ (tg T (okF T) :: T.drop (okF T + 1)) := by rw [← drop_tg h, List.take_append_drop]
  have h2 : ∀ o, exF M (tg T (okF T) :: T.drop (okF T + 1)) o = .error 23 := fun o => by
    show bndL (tkF M (tg T (okF T)) o) _ = _
    unfold tkF
    rw [if_neg (fun h3 => h1 (.inl h3)), if_neg (fun h3 => h1 (.inr h3))]
    rfl
  conv => lhs; rw [e, exF_append]
  cases exF M (T.take (okF T)) [] with
  | error z => rfl
  | ok o => exact h2 o
theorem exF_nz {M : Nat} : ∀ {T : List Tok} {o : List F} {z : Nat}, exF M T o = .error z → z ≠ 0 := by
  intro T
  induction T with
  | nil => intro o z h; cases h
  | cons t r ih =>
    intro o z h
    change bndL (tkF M t o) (exF M r) = _ at h
    cases h1 : tkF M t o with
    | ok o2 => rw [h1] at h; exact ih h
    | error y =>
      rw [h1] at h
      injection h with h
      subst h
      unfold tkF at h1
      split at h1
      · split at h1
        · cases h1
        · injection h1 with h1; omega
      · split at h1
        · split at h1
          · injection h1 with h1; omega
          · rw [agL_eq] at h1
            split at h1
            · cases h1
            · injection h1 with h1; omega
        · injection h1 with h1; omega
set_option maxHeartbeats 1000000 in
theorem MExp_c (A : Option Addr) (n c : Nat) (T : List Tok) (w : World) (h : TRow w A n T) (hc : n ≤ c) (hcm : c ≤ 9223372036854775807) (hn : n ≤ 100000) (most : Int) (M : Nat) (hm : max most 0 = (M : Int)) (hM : M ≤ 1000000) :
    Calls Try.prog 9 #[.slice A n c, .int .i64 most] w fun e w' => ExEnd w (exF M T []) e w' := by
  have HI := Lib.hid (Index_c A n c T w h hn)
  have HH := Lib.hid h
  have HLEN := Lib.hid h.len
  have HM := Lib.hid hm
  clear h hm
  by_cases hlt : okF T < n
  · obtain ⟨k, hk⟩ : ∃ k, k = okF T := ⟨_, rfl⟩
    rw [← hk] at hlt HI
    rw [if_pos hlt] at HI
    have hex : Hid (exF M T [] = bndL (exF M (T.take k) []) fun _ => .error 23) := by unfold Hid; rw [hk]; exact exF_wrong (by rw [HLEN.out, ← hk]; exact hlt)
    have hok : Hid (∀ i, i < k → TokOk (tg (T.take k) i)) := fun i hi => by
      rw [show tg (T.take k) i = tg T i by simp [tg, List.getD, hi]]
      exact okF_at (by rw [← hk]; exact hi)
    have hkz : ¬ (k : Int) < 0 := by omega
    have hkc : (k : Int) ≤ (c : Int) := by omega
    clear hk
    go_enter Try.func9, Try.ntmps9
    go_wp2_with fail
    refine HI.out.mono ?_
    rintro e w1 ⟨rfl, hb1⟩
    have HB1 := Lib.hid hb1
    have HE := Lib.hid (mexp_c A k c (T.take k) w1 ((HH.out.below hb1).take (by omega)) hok.out (by omega) most M HM.out hM)
    clear hb1
    go_wp2_with fail
    refine HE.out.mono ?_
    rintro e w2 (⟨z, g1, rfl, g2⟩ | ⟨o, A2, n2, c2, g1, g2, rfl, g3, g4⟩)
    · have hz := exF_nz g1
      have hne : ((z : Int) != 0) = true := by rw [bne_iff_ne]; omega
      have hR : Hid (exF M T [] = .error z) := by unfold Hid; rw [hex.out, g1]; rfl
      have HB2 := Lib.hid (HB1.out.trans (g2.mono HB1.out.size))
      clear g1 g2 hz
      go_wp2
      go_ret2
      exact .inl ⟨z, hR.out, rfl, HB2.out⟩
    · have hR : Hid (exF M T [] = .error 23) := by unfold Hid; rw [hex.out, g1]; rfl
      have HB2 := Lib.hid (HB1.out.trans (g4.mono HB1.out.size))
      clear g1 g2 g3 g4
      go_wp2
      go_ret2
      exact .inl ⟨23, hR.out, rfl, HB2.out⟩
  · rw [if_neg hlt] at HI
    have hok : Hid (∀ i, i < n → TokOk (tg T i)) := fun i hi => okF_at (by omega)
    clear hlt
    go_enter Try.func9, Try.ntmps9
    go_wp2_with fail
    refine HI.out.mono ?_
    rintro e w1 ⟨rfl, hb1⟩
    have HB1 := Lib.hid hb1
    have HE := Lib.hid (mexp_c A n c T w1 (HH.out.below hb1) hok.out hn most M HM.out hM)
    clear hb1
    go_wp2_with fail
    refine HE.out.mono ?_
    rintro e w2 (⟨z, g1, rfl, g2⟩ | ⟨o, A2, n2, c2, g1, g2, rfl, g3, g4⟩)
    · have HG := Lib.hid (And.intro g1 g2)
      clear g1 g2
      go_wp2
      go_ret2
      exact .inl ⟨z, HG.out.1, rfl, HB1.out.trans (HG.out.2.mono HB1.out.size)⟩
    · have HG := Lib.hid (And.intro g1 (And.intro g2 (And.intro g3 g4)))
      clear g1 g2 g3 g4
      go_wp2
      go_ret2
      exact .inr ⟨o, A2, n2, c2, HG.out.1, HG.out.2.1, rfl, own_base HG.out.2.2.1 HB1.out.size, HB1.out.trans (HG.out.2.2.2.mono HB1.out.size)⟩
end Go.Proofs.Ytkjogejakenmeaa
