/-
  LAW 23: of all columns those that follow are as said: StripeParity. No conditions.
-/
import Derived.Test.YtbmkcnlcffnjgaaLaw23
import Derived.Test.YtbmkcnlcffnjgaaSrv
import Derived.Test.YtbmkcnlcffnjgaaSrr
namespace Go.Proofs.Ytbmkcnlcffnjgaa
open Go.RowKit
set_option maxRecDepth 100000
set_option linter.unusedVariables false

theorem wpList_append_own_w {P : Program} {w : World} {ops : Array Oper} {rest : List Oper} {o : Oper} {a : Act} {Q : Exit → Act → World → Prop} (hw : Region.wanted o (yielded ops a.tmps) = true) (s x : Operand) (t : TypeId)
    (ho : o.op = .call { callee := .builtin .append, args := #[s, x], argTypes := #[t, t] })
    (base : Nat) (e : TypeId) (i : TypeInfo) (z : Value) (size bytes : Nat) (ht : P.underlying t = some (.slice e)) (hi : P.info? e = some i) (hz : i.zero = some z)
    (hsize : i.size = size) (hby : i.bytes = bytes) (hzs : z.cells.size = size) (hsz : 0 < size)
    (v : Value) (n : Nat) (xs : List Value) (hs : a.eval s = v) (hown : w.ownsRow base e size v n xs)
    (ad : Addr) (m c : Nat) (news : List Value) (hx : a.eval x = .slice (some ad) m c) (hl : news.length = m * size) (hnews : ∀ j u, news[j]? = some u → w.cell? (ad.add j) = some u) (h1 : ∀ u ∈ news, u.oneCell' = true)
    (h63 : n + m ≤ maxLen) (hbytes : (n + m) * bytes ≤ 140737488355328) (hbase : base ≤ w.heap.size)
    (h : ∀ v' w', w'.ownsRow base e size v' (n + m) (xs ++ news) → w.grownBy w' v.ownBlock → wpList P ops Q rest (a.put o.dst v') w') : wpList P ops Q (o :: rest) a w := by
  refine wpList_step fun K hK => ?_
  rw [if_pos hw]
  exact wp_append_own w s x t ho base e i z size bytes ht hi hz hsize hby hzs hsz v n xs hs hown ad m c news hx hl hnews h1 h63 hbytes hbase fun v' w' h2 h3 h4 => hK _ _ (h v' w' h2 h3)
theorem own_some {w : World} {base n : Nat} {e : TypeId} {v : Value} {xs : List Value} (h : w.ownsRow base e 1 v n xs) (hn : 0 < n) : ∃ g c, v = .slice (some ⟨g, 0, none⟩) n c := by
  rcases h.2 with ⟨_, h0⟩ | ⟨g, cap, cur, hv, _⟩
  · omega
  · exact ⟨g, cap, hv⟩
theorem min_own {w : World} {base g n c : Nat} {RA : Nat → Option Addr} {RL RC : Nat → Nat} {R : Nat → List F} (h : w.ownsRow base 22 1 (.slice (some ⟨g, 0, none⟩) n c) n (vs (slf RA RL RC) n)) (hr : ∀ r, r < n → RowIn w (RA r) (RL r) (RC r) (R r)) : MIn w (some ⟨g, 0, none⟩) n c RA RL RC R :=
  ⟨(own_caps23 h).1, (own_caps23 h).2, fun _ => ⟨g, 0, rfl, (h.lt g rfl).2, fun r hr => by
    rw [Nat.zero_add, h.cellAt r (by omega), vs_at _ hr]
    rfl⟩, hr⟩
theorem RowIn.kept23 {w w' : World} {A : Option Addr} {n c B g : Nat} {l : List F} (h : RowIn w A n c l) (hg : w.grownBy w' (some g)) (hB : ∀ x, 0 < n → A = some x → x.block < B) (hBg : B ≤ g) : RowIn w' A n c l :=
  ⟨h.row.kept23 hg (fun h0 z e e2 => by have h1 := hB z h0 e; have h2 : g = z.block := Option.some.inj e2; omega), h.le, h.max⟩
theorem RowIn.blk23 {w : World} {A : Option Addr} {n c : Nat} {l : List F} (h : RowIn w A n c l) : ∀ x, 0 < n → A = some x → x.block < w.heap.size := fun x h0 e => by
  obtain ⟨b, o, e2, hb, _⟩ := h.row.2.2 h0
  rw [e2] at e
  injection e with e
  subst e
  exact hb
theorem cells_in {w : World} {b o n cap C : Nat} {RA : Nat → Option Addr} {RL RC : Nat → Nat} {R : Nat → List F} (h : MIn w (some ⟨b, o, none⟩) n cap RA RL RC R) (hL : ∀ r, r < n → RL r = C) : ∀ j u, (vs (slf RA (fun _ => C) RC) n)[j]? = some u → w.cell? ((⟨b, o, none⟩ : Addr).add j) = some u := fun j u hu => by
  have hjn : j < n := by
    have := (List.getElem?_eq_some_iff.1 hu).1
    rwa [vs_length] at this
  rw [vs_at _ hjn] at hu
  injection hu with hu
  subst hu
  obtain ⟨b', o', e, _, q⟩ := h.at_ hjn
  injection e with e
  injection e with e1 e2
  subst e1 e2
  rw [hL j hjn] at q
  rw [show ((⟨b, o, none⟩ : Addr).add j) = ⟨b, o + j, none⟩ by
    simp only [Addr.add]
    by_cases e : j = 0
    · rw [if_pos e, e]; rfl
    · rw [if_neg e]]
  exact q
theorem min_two {w : World} {base g n m c C : Nat} {RA A' : Nat → Option Addr} {RC C' : Nat → Nat} {R R' : Nat → List F} (h : w.ownsRow base 22 1 (.slice (some ⟨g, 0, none⟩) (n + m) c) (n + m) (vs (slf RA (fun _ => C) RC) n ++ vs (slf A' (fun _ => C) C') m)) (h1 : ∀ r, r < n → RowIn w (RA r) C (RC r) (R r)) (h2 : ∀ r, r < m → RowIn w (A' r) C (C' r) (R' r)) :
    MIn w (some ⟨g, 0, none⟩) (n + m) c (fun r => if r < n then RA r else A' (r - n)) (fun _ => C) (fun r => if r < n then RC r else C' (r - n)) (fun r => if r < n then R r else R' (r - n)) := by
  refine min_own (base := base) ?_ fun r hr => ?_
  · rw [vs_append] at h
    refine cast (congrArg _ (vs_congr fun r hr => ?_)) h
    by_cases e : r < n
    · simp only [slf, if_pos e]
    · simp only [slf, if_neg e]
  · by_cases e : r < n
    · simp only [if_pos e]
      exact h1 r e
    · simp only [if_neg e]
      exact h2 (r - n) (by omega)
/-- whether the first i columns are as long as the first of all -/
structure LgI (lg : Bool) (i : Nat) (RL : Nat → Nat) : Prop where
  yes : lg = true → ∀ r, r < i → RL r = RL 0
  no : lg = false → ∃ r, r < i ∧ ¬ RL r = RL 0
set_option maxHeartbeats 8000000 in
theorem walk_StripeParity (w : World) (A : Option Addr) (n cap : Nat) (RA : Nat → Option Addr) (RL RC : Nat → Nat) (R : Nat → List F) (h : MIn w A n cap RA RL RC R) (k : Int) (hk : (Lit.int .i64 k).wf = true) :
    Calls Try.prog 4 #[.slice A n cap, .int .i64 k] w fun e w' => e = .returned (.bool true) ∧ Below w.heap.size w w' := by
  obtain ⟨i0, hi, hz0, hz1, hz2⟩ := info_parts info_bytes3
  have hnm := h.nmax
  have HH := Lib.hid h
  clear h hk
  go_enter Try.func4, Try.ntmps4
  go_wp2_with fail
  refine (alive23_c w).mono ?_
  rintro e w1 ⟨rfl, hb1⟩
  have HB1 := Lib.hid hb1
  have H1 := Lib.hid (HH.out.below hb1)
  clear hb1
  go_wp2
  go_loop [5, 14] (fun v iv => ∃ i : Nat, i ≤ n ∧ iv = .int .i64 i ∧ ∃ lg : Bool, v = .bool lg ∧ Hid (∀ r, r < i → RL r ≤ 40) ∧ LgI lg i RL) (fun _ iv => n - (intOf iv).toNat)
  case atStart => exact ⟨0, by omega, rfl, true, rfl, fun r hr => by omega, ⟨fun _ r hr => by omega, fun h => by cases h⟩⟩
  case round =>
    obtain ⟨i, hi', rfl, lg, rfl, HL4, HLG⟩ := hrel
    by_cases hlt : i < n
    · have hii : (i : Int) < (n : Int) := by omega
      obtain ⟨b1, o1, rfl, _, q1⟩ := H1.out.at_ hlt
      obtain ⟨b1', o1', e, _, q0⟩ := H1.out.at_ (r := 0) (by omega)
      injection e with e
      injection e with e1 e2
      subst e1 e2
      rw [Nat.add_zero] at q0
      have h0i : (0 : Int) < (n : Int) := by omega
      by_cases h40 : (40 : Int) < (RL i : Int)
      · go_wp2
        go_ret
        exact ⟨rfl, HB1.out⟩
      have HLn : Hid (∀ r, r < i + 1 → RL r ≤ 40) := fun r hr => by
        by_cases e : r = i
        · rw [e]; omega
        · exact HL4.out r (by omega)
      cases lg with
      | true =>
        by_cases he : RL i = RL 0
        · have hbe : ((RL i : Int) == (RL 0 : Int)) = true := by rw [he]; simp
          have HE := Lib.hid he
          clear he
          go_wp2
          go_round
          case rel =>
            refine ⟨i + 1, by omega, by go_num, true, rfl, HLn, ⟨fun _ r hr => ?_, fun h => by cases h⟩⟩
            by_cases e : r = i
            · rw [e]; exact HE.out
            · exact HLG.yes rfl r (by omega)
          case measure => simp [intOf]; omega
        · have hbe : ((RL i : Int) == (RL 0 : Int)) = false := by rw [beq_eq_false_iff_ne]; omega
          have HE := Lib.hid he
          clear he
          go_wp2
          go_round
          case rel => exact ⟨i + 1, by omega, by go_num, false, rfl, HLn, ⟨(fun h => by cases h), fun _ => ⟨i, by omega, HE.out⟩⟩⟩
          case measure => simp [intOf]; omega
      | false =>
        go_wp2
        go_round
        case rel => exact ⟨i + 1, by omega, by go_num, false, rfl, HLn, ⟨(fun h => by cases h), fun _ => by obtain ⟨r, h1, h2⟩ := HLG.no rfl; exact ⟨r, by omega, h2⟩⟩⟩
        case measure => simp [intOf]; omega
    · obtain rfl : n = i := by omega
      by_cases h12 : (12 : Int) < (n : Int)
      · go_wp2
        go_ret
        exact ⟨rfl, HB1.out⟩
      by_cases hk12 : 12 < k ∧ k < 255
      · obtain ⟨hk1, hk2⟩ := hk12
        go_wp2
        go_ret
        exact ⟨rfl, HB1.out⟩
      have hkk : (12 < k ∧ ¬ k < 255) ∨ ¬ 12 < k := by omega
      clear hk12
      have HNO : ∀ x : Nat, chk23 n RL k = x → x ≠ 0 → Hid (Calls Try.prog 18 #[.slice A n cap, .int .i64 k] w1 fun e w' => e = .returned (.tuple #[.slice none 0 0, .int .i64 x]) ∧ Below w1.heap.size w1 w') := fun x hx h0 => Parity_no H1.out k hx h0
      by_cases hbad : n = 0 ∨ k < 0 ∨ lg = false
      · have hx : chk23 n RL k = 1 := by
          refine if_pos ?_
          rcases hbad with h | h | h
          · exact .inl h
          · exact .inr (.inr h)
          · obtain ⟨r, h1, h2⟩ := HLG.no h
            exact .inr (.inl (un23_yes h1 h2))
        have HNP := HNO 1 hx (by omega)
        have e1 : ((1 : Int) == 1) = true := rfl
        clear hx HNO
        rcases hkk with ⟨hk1, hk2⟩ | hk1
        all_goals
          go_wp2_with fail
          refine HNP.out.mono ?_
          rintro e w2 ⟨rfl, hb2⟩
          have HB2 := Lib.hid (HB1.out.trans (hb2.mono HB1.out.size))
          clear hb2 HNP
          by_cases h0 : n = 0
          · have e0 : ((n : Int) == 0) = true := by rw [beq_iff_eq]; omega
            go_wp2
            go_ret
            exact ⟨rfl, HB2.out⟩
          · have e0 : ((n : Int) == 0) = false := by rw [beq_eq_false_iff_ne]; omega
            by_cases hk0 : k < 0
            · go_wp2
              go_ret
              exact ⟨rfl, HB2.out⟩
            · obtain rfl : lg = false := by
                rcases hbad with h | h | h
                · exact absurd h h0
                · exact absurd h hk0
                · exact h
              go_wp2
              go_ret
              exact ⟨rfl, HB2.out⟩
      · have hn1 : 1 ≤ n := by omega
        have hk0 : ¬ k < 0 := by omega
        obtain rfl : lg = true := by
          cases lg with
          | true => rfl
          | false => exact absurd (.inr (.inr rfl)) hbad
        have e0 : ((n : Int) == 0) = false := by rw [beq_eq_false_iff_ne]; omega
        have hun : un23 n RL = false := un23_no (HLG.yes rfl)
        clear hbad
        by_cases hk255 : 255 ≤ k
        · have hx : chk23 n RL k = 3 := by
            unfold chk23
            rw [if_neg (by rw [hun]; simp; omega), if_pos (by omega)]
          have HNP := HNO 3 hx (by omega)
          have e3 : ((3 : Int) == 3) = true := rfl
          clear hx HNO hun
          have hk1 : 12 < k := by omega
          have hk2 : ¬ k < 255 := by omega
          clear hkk
          go_wp2_with fail
          refine HNP.out.mono ?_
          rintro e w2 ⟨rfl, hb2⟩
          have HB2 := Lib.hid (HB1.out.trans (hb2.mono HB1.out.size))
          clear hb2 HNP
          go_wp2
          go_ret
          exact ⟨rfl, HB2.out⟩
        · have hk1 : ¬ 12 < k := by omega
          obtain ⟨K, rfl⟩ : ∃ K : Nat, k = K := ⟨k.toNat, by omega⟩
          obtain ⟨C, hC⟩ : ∃ C, C = RL 0 := ⟨_, rfl⟩
          have HL : Hid (∀ r, r < n → RL r = C) := fun r hr => by rw [hC]; exact HLG.yes rfl r hr
          have hC40 : C ≤ 40 := by rw [hC]; exact HL4.out 0 (by omega)
          have HPY := Lib.hid (Parity_yes (k := K) H1.out HL.out hn1 (by omega) (by omega))
          obtain ⟨b, o, rfl, _, _⟩ := H1.out.at_ (r := 0) (by omega)
          clear HNO hun hC hkk
          go_wp2_with fail
          refine HPY.out.mono ?_
          rintro e w5 ⟨g5, hi5, G5, M5, rfl, hM5, hpar5, hb5⟩
          have HM5 := Lib.hid hM5
          have HP5 := Lib.hid hpar5
          have HB5 := Lib.hid (HB1.out.trans (hb5.mono HB1.out.size))
          have H5 := Lib.hid (H1.out.below hb5)
          have e00 : ((0 : Int) == 0) = true := rfl
          clear hM5 hpar5 hb5 HPY H1
          have hbA : Below w5.heap.size w5 (w5.alloc (.cells #[] 22)) := (Below.refl _ _).alloc (Nat.le_refl _) _
          have HNW := Lib.hid (cells_in (H5.out.below hbA) HL.out)
          have HBA := Lib.hid hbA
          clear hbA
          go_wp2_with (first
            | ((at_builtin
                refine wpList_append_own_w (show Region.wanted _ (yielded _ _) = true from rfl) (.tmp 79) (.tmp 80) 40 rfl w5.heap.size 22 i0 (.slice none 0 0) 1 24 Try.underlying40 hi hz0 hz1 hz2 rfl (by decide) (.slice (some ⟨w5.heap.size, 0, none⟩) 0 0) 0 [] rfl (World.ownsRow_made (e := 22) (size := 1) w5 #[] 0 (Nat.le_refl _) (Nat.zero_le _) rfl) ⟨b, o, none⟩ n cap (vs (slf RA (fun _ => C) RC) n) rfl (by rw [vs_length]; omega) HNW.out (vs_one fun _ _ => rfl) (by unfold maxLen; omega) (by omega) (by simp) ?_
                intro v6 w6 hown6 hg6
                rw [List.nil_append, Nat.zero_add] at hown6
                obtain ⟨g6, c6, rfl⟩ := own_some hown6 (by omega)
                have HO6 := Lib.hid hown6
                have HB6 : Hid (Below w5.heap.size w5 w6) := HBA.out.grown hg6 (by simp) (fun x hx => by injection hx with hx; subst hx; exact Nat.le_refl _)
                have HM6 := Lib.hid (HM5.out.below (HB6.out.mono HM5.out.hle))
                have HMM : Hid (∀ j u, (vs (slf (fun r => some ⟨G5 r, 0, none⟩) (fun _ => C) (fun _ => C)) K)[j]? = some u → w6.cell? ((⟨g5, 0, none⟩ : Addr).add j) = some u) := fun j u hu => by
                  have hjk : j < K := by
                    have := (List.getElem?_eq_some_iff.1 hu).1
                    rwa [vs_length] at this
                  rw [vs_at _ hjk] at hu
                  injection hu with hu
                  subst hu
                  rw [show ((⟨g5, 0, none⟩ : Addr).add j) = ⟨g5, j, none⟩ by
                    simp only [Addr.add, Nat.zero_add]
                    by_cases e : j = 0
                    · rw [if_pos e, e]
                    · rw [if_neg e]]
                  exact HM6.out.topAt hjk
                clear hown6 hg6 HNW HBA))
            | ((at_builtin
                refine wpList_append_own_w (show Region.wanted _ (yielded _ _) = true from rfl) (.tmp 81) (.tmp 82) 40 rfl w5.heap.size 22 i0 (.slice none 0 0) 1 24 Try.underlying40 hi hz0 hz1 hz2 rfl (by decide) (.slice (some ⟨g6, 0, none⟩) n c6) n (vs (slf RA (fun _ => C) RC) n) rfl HO6.out ⟨g5, 0, none⟩ K K (vs (slf (fun r => some ⟨G5 r, 0, none⟩) (fun _ => C) (fun _ => C)) K) rfl (by rw [vs_length]; omega) HMM.out (vs_one fun _ _ => rfl) (by unfold maxLen; omega) (by omega) (by have := HB6.out.size; omega) ?_
                intro v7 w7 hown7 hg7
                obtain ⟨g7, c7, rfl⟩ := own_some hown7 (by omega)
                have HB7 : Hid (Below w5.heap.size w5 w7) := HB6.out.grown hg7 (by have := HB6.out.size; omega) (fun x hx => (HO6.out.lt x hx).1)
                have H7 := Lib.hid (H5.out.below HB7.out)
                have HM7 := Lib.hid (HM5.out.below (HB7.out.mono HM5.out.hle))
                have HN7 := Lib.hid (min_two hown7 (fun r hr => by have h9 := H7.out.row r hr; rw [HL.out r hr] at h9; exact h9) (fun r hr => (HM7.out.toIn (cg := K) (Nat.le_refl _) (by unfold maxLen; omega)).row r hr))
                have HAL := Lib.hid (All_c H7.out HL.out hn1 (k := K) (by omega) (by omega))
                clear hown7 hg7 HO6 HMM HM6))
            | (go_at_call 20
               refine HAL.out.mono ?_
               rintro e w8 ⟨g8, c8, RA8, RC8, R8, M8, rfl, hmin8, hr8, hm8, hp8, hb8⟩
               have hrw := RowsW23_c (HN7.out.below hb8) hmin8
               rw [decide_eq_true (show sameR23 _ _ _ _ from ⟨rfl, fun r hr => by
                 by_cases e : r < n
                 · rw [if_pos e, hr8 r e]
                 · rw [if_neg e]
                   have h9 := hm8 (r - n) (by omega)
                   rw [show n + (r - n) = r by omega] at h9
                   rw [h9]
                   refine ext_gt (by rw [mkF_length, mkF_length]) fun a ha => ?_
                   rw [mkF_length] at ha
                   rw [gt_mkF, gt_mkF, if_pos ha, if_pos ha]
                   exact ParAt.unique (by omega) (HP5.out (r - n) (by omega) a ha) (hp8 (r - n) (by omega) a ha)⟩)] at hrw
               have HRW := Lib.hid hrw
               have HB8 := Lib.hid ((HB5.out.trans (HB7.out.mono HB5.out.size)).trans (hb8.mono (by have := HB5.out.size; have := HB7.out.size; omega)))
               clear hrw hmin8 hr8 hm8 hp8 hb8 HAL)
            | (go_at_call 19
               refine HRW.out.mono ?_
               rintro e _ ⟨rfl, q, rfl⟩))
          go_ret
          exact ⟨rfl, below_drewN HB8.out q⟩
end Go.Proofs.Ytbmkcnlcffnjgaa
