/-
  LAW 09: LengthsTurned. No conditions.
-/
import Derived.Test.YtfnjjeopojdnjaaLenO
import Derived.Deep.RegionLaw
namespace Go.Proofs.Ytfnjjeopojdnjaa
open Go.RowKit
set_option maxRecDepth 100000
set_option linter.unusedVariables false

theorem step_append_some {P : Program} {w : World} {ops : Array Oper} {o : Oper} {a : Act} {K : Act → World → Prop} {Q : Exit → Act → World → Prop} {G : Prop} (hgd : o.guard = none) (s x : Operand) (t : TypeId)
    (ho : o.op = .call { callee := .builtin .append, args := #[s, x], argTypes := #[t, t] })
    (base : Nat) (e : TypeId) (i : TypeInfo) (z : Value) (bytes : Nat) (ht : P.underlying t = some (.slice e)) (hi : P.info? e = some i) (hz : i.zero = some z)
    (hsize : i.size = 1) (hby : i.bytes = bytes) (hzs : z.cells.size = 1)
    (g0 n c0 : Nat) (xs : List Value) (hs : a.eval s = .slice (some ⟨g0, 0, none⟩) n c0) (hown : w.ownsRow base e 1 (.slice (some ⟨g0, 0, none⟩) n c0) n xs)
    (ad : Addr) (m c : Nat) (news : List Value) (hx : a.eval x = .slice (some ad) m c) (hl : news.length = m * 1) (hnews : ∀ j u, news[j]? = some u → w.cell? (ad.add j) = some u) (h1 : ∀ u ∈ news, u.oneCell' = true)
    (h63 : n + m ≤ maxLen) (hbytes : (n + m) * bytes ≤ 140737488355328) (hbase : base ≤ w.heap.size)
    (h : ∀ g c' w', w'.ownsRow base e 1 (.slice (some ⟨g, 0, none⟩) (n + m) c') (n + m) (xs ++ news) → w.grownBy w' (some g0) → K (a.put o.dst (.slice (some ⟨g, 0, none⟩) (n + m) c')) w') :
    if Region.wanted o (yielded ops a.tmps) = true then Oper.wp P o a w K Q else G := by
  have hw : Region.wanted o (yielded ops a.tmps) = true := by simp [Region.wanted, hgd]
  rw [if_pos hw]
  refine wp_append_own w s x t ho base e i z 1 bytes ht hi hz hsize hby hzs (by decide) _ n xs hs hown ad m c news hx hl hnews h1 h63 hbytes hbase fun v' w' h2 h3 h4 => ?_
  rcases h2.2 with ⟨hv, _⟩ | ⟨g', cap', cur, hv, _⟩
  · exact absurd (h4.1 hv).1 (by intro h; cases h)
  · subst hv
    exact h g' cap' w' h2 h3
theorem iF_one (f : Nat → Int) (n : Nat) : ∀ u ∈ iF f n, u.oneCell' = true := by
  intro u hu
  obtain ⟨x, _, rfl⟩ := List.mem_map.1 hu
  rfl
theorem iF_app (f g : Nat → Int) (a b : Nat) (h : Nat → Int) (h1 : ∀ v, v < a → h v = f v) (h2 : ∀ v, v < b → h (a + v) = g v) : iF f a ++ iF g b = iF h (a + b) := by
  refine List.ext_getElem? fun k => ?_
  by_cases hk : k < a
  · rw [List.getElem?_append_left (by rw [iF_length]; exact hk), iF_at f hk, iF_at h (by omega), h1 k hk]
  · rw [List.getElem?_append_right (by rw [iF_length]; omega), iF_length]
    by_cases hk2 : k - a < b
    · rw [iF_at g hk2, iF_at h (by omega), ← h2 _ hk2, show a + (k - a) = k by omega]
    · rw [List.getElem?_eq_none (by rw [iF_length]; omega), List.getElem?_eq_none (by rw [iF_length]; omega)]
theorem Make_y (FA : Option Addr) (n cf : Nat) (fr : List Int) (Li : Int) (w : World) (hf : IRow w FA n .i64 fr) (hok : chkE fr n Li = 0) :
    Calls Try.prog 10 #[.slice FA n cf, .int .i64 Li] w fun e w' => ∃ g, e = .returned (.tuple #[.slice (some ⟨g, 0, none⟩) n n, .int .i64 0]) ∧ ∃ A, IRow w' (some ⟨g, 0, none⟩) n .i64 (nI (arr A n)) ∧ (0 < n → w.heap.size ≤ g) ∧ MadeX fr n Li.toNat (comeN fr n).length A ∧ Below w.heap.size w w' := by
  obtain ⟨hL, hn, hfb, hmany⟩ := chk_no hok
  refine (Make_ok FA n cf fr Li w hf hok).mono ?_
  rintro e w' ⟨g, rfl, m, d, A, hown, hmade, hb⟩
  have hx := hmade.ext (by omega) (by omega) (fun i hi => (FreqB_all hfb i hi).1)
  refine ⟨g, rfl, A, IRow.ofN hown (fun x hx' => ?_) (by omega), fun _ => (hown.lt g rfl).1, by rw [← hmade.come.len]; exact hx, hb⟩
  obtain ⟨v, _, rfl⟩ := List.mem_map.1 hx'
  have := hx.most v
  omega
theorem wpList_append_own_w9 {P : Program} {w : World} {ops : Array Oper} {rest : List Oper} {o : Oper} {a : Act} {Q : Exit → Act → World → Prop} (hw : Region.wanted o (yielded ops a.tmps) = true) (s x : Operand) (t : TypeId)
    (ho : o.op = .call { callee := .builtin .append, args := #[s, x], argTypes := #[t, t] })
    (base : Nat) (e : TypeId) (i : TypeInfo) (z : Value) (size bytes : Nat) (ht : P.underlying t = some (.slice e)) (hi : P.info? e = some i) (hz : i.zero = some z)
    (hsize : i.size = size) (hby : i.bytes = bytes) (hzs : z.cells.size = size) (hsz : 0 < size)
    (v : Value) (n : Nat) (xs : List Value) (hs : a.eval s = v) (hown : w.ownsRow base e size v n xs)
    (ad : Addr) (m c : Nat) (news : List Value) (hx : a.eval x = .slice (some ad) m c) (hl : news.length = m * size) (hnews : ∀ j u, news[j]? = some u → w.cell? (ad.add j) = some u) (h1 : ∀ u ∈ news, u.oneCell' = true)
    (h63 : n + m ≤ maxLen) (hbytes : (n + m) * bytes ≤ 140737488355328) (hbase : base ≤ w.heap.size)
    (h : ∀ v' w', w'.ownsRow base e size v' (n + m) (xs ++ news) → w.grownBy w' v.ownBlock → wpList P ops Q rest (a.put o.dst v') w') : wpList P ops Q (o :: rest) a w := by
  refine wpList_step fun K hK => ?_
  rw [if_pos hw]
  obtain ⟨v', w', hrun, r1, r2, _⟩ := run_append_own (P := P) w base t o.type e i z size bytes ht hi hz hsize hby hzs hsz v n xs hown ad m c news hl hnews h1 h63 hbytes hbase
  unfold Oper.wp execOp
  simp only [ho, resolve, invoke, builtin, Sem.run_bind, Sem.run_pure, Result.andThen_ok, List.map_toArray, List.map_cons, List.map_nil, hs, hx, hrun]
  exact hK _ _ (h v' w' r1 r2)
set_option maxRecDepth 1000000 in
set_option maxHeartbeats 16000000 in
theorem turned_some (w : World) (b off n ca : Nat) (fr : List Int) (ha : IRow w (some ⟨b, off, none⟩) n .i64 fr) (hblk : 0 < n → b < w.heap.size) (hca : n ≤ ca) (hn60 : n ≤ 60) (Lk : Nat) (hL7 : 7 ≤ Lk) (hL15 : Lk ≤ 15) (c0 : Int) (_hc : (Lit.int .i64 c0).wf = true) :
    Calls Try.prog 8 #[.slice (some ⟨b, off, none⟩) n ca, .int .i64 Lk, .int .i64 c0] w fun e w' => e = .returned (.bool true) ∧ Below w.heap.size w w' := by
  obtain ⟨i0, hi, hz0, hz1, hz2⟩ := info_parts info_int
  have ec : bits .and .i64 c0 63 = c0 % 64 := andLow c0 6 (by decide)
  obtain ⟨t, ht, ht9⟩ := mod_lowI c0 64 (by decide)
  rw [show ((64 : Nat) : Int) = 64 from rfl] at ht
  rw [ht] at ec
  obtain ⟨c, hc, hcn⟩ := mod_lowI (t : Int) (n + 1) (by omega)
  have hc2 : (t : Int).tmod ((n + 1 : Nat) : Int) = (c : Int) := by rw [Int.tmod_eq_emod_of_nonneg (by omega), hc]
  rw [show ((n + 1 : Nat) : Int) = (n : Int) + 1 by omega] at hc hc2
  have hcle : c ≤ n := by omega
  have hci : (c : Int) ≤ (n : Int) := by omega
  have hcci : (c : Int) ≤ (ca : Int) := by omega
  have hnci : (n : Int) ≤ (ca : Int) := by omega
  have hca9 : ca ≤ 9223372036854775807 ∨ True := .inr trivial
  clear ht _hc
  go_enter Try.func8, Try.ntmps8
  go_wp2_with fail
  refine (alive09_c w).mono ?_
  rintro e w1 ⟨rfl, hb1⟩
  have ha1 := ha.below hb1
  have hblk1 : 0 < n → b < w1.heap.size := fun h => by have := hb1.size; have := hblk h; omega
  clear ha
  go_wp2
  go_loop [32] (fun vi => ∃ k : Nat, k ≤ n ∧ vi = .int .i64 k ∧ Hid (∀ v, v < k → 0 ≤ gi fr v ∧ gi fr v ≤ 1048576)) (fun vi => n - (intOf vi).toNat)
  case atStart => exact ⟨0, by omega, rfl, fun v hv => by omega⟩
  case round =>
    obtain ⟨k, hk, rfl, hs⟩ := hrel
    by_cases hlt : k < n
    · have hkn : (k : Int) < n := by omega
      obtain ⟨b1, o1, e1, _, q1⟩ := ha1.at_ hlt
      injection e1 with e1
      injection e1 with e1 e1'
      subst e1 e1'
      have hnext : Hid (0 ≤ gi fr k ∧ gi fr k ≤ 1048576 → ∀ v, v < k + 1 → 0 ≤ gi fr v ∧ gi fr v ≤ 1048576) := by
        intro h v hv
        rcases (show v < k ∨ v = k by omega) with h3 | rfl
        · exact hs.out v h3
        · exact h
      generalize gi fr k = f at *
      by_cases h1 : f < 0
      · go_wp2
        go_ret
        exact ⟨rfl, hb1⟩
      · by_cases h2 : 1048576 < f
        · go_wp2
          go_ret
          exact ⟨rfl, hb1⟩
        · have HN := Lib.hid (hnext.out ⟨by omega, by omega⟩)
          clear hnext
          go_wp2
          go_round
          case rel => exact ⟨k + 1, by omega, by go_num, HN.out⟩
          case measure => simp [intOf]; omega
    · obtain rfl : k = n := by omega
      have hkn : ¬ (k : Int) < (k : Int) := by omega
      have hcell : ∀ v, v < k → w1.cell? ⟨b, off + v, none⟩ = some (.int .i64 (gi fr v)) := fun v hv => by
        obtain ⟨b1, o1, e1, _, q1⟩ := ha1.at_ hv
        injection e1 with e1
        injection e1 with e1 e1'
        subst e1 e1'
        exact q1
      obtain ⟨m1, hm1⟩ : ∃ m1, m1 = k - c := ⟨_, rfl⟩
      have hm1i : (k : Int) - (c : Int) = (m1 : Int) := by omega
      have HM1 := Lib.hid hm1
      have HCELL := Lib.hid hcell
      have hsub : k - c = m1 := hm1.symm
      clear hcell hm1
      have HN2 : Hid (∀ W : World, ((w1.drew).alloc (.cells #[] 3)).grownBy W (some w1.heap.size) → ∀ j u, (iF (gi fr) c)[j]? = some u → W.cell? ((⟨b, off, none⟩ : Addr).add j) = some u) := by
        intro W hg j u hu
        have hj : j < c := by rw [← iF_length (gi fr) c]; exact (List.getElem?_eq_some_iff.1 hu).1
        have hblk1 := hblk1 (by omega)
        rw [iF_at _ hj] at hu
        have e2 : (⟨b, off, none⟩ : Addr).add j = ⟨b, off + j, none⟩ := by unfold Addr.add; split <;> simp_all
        rw [e2, hg.cell_far ⟨b, off + j, none⟩ (by simp; omega) (by intro e; injection e with e; simp at e; omega)]
        exact ((World.cell?_alloc_lt _ _ _ (by simpa using hblk1)).trans (HCELL.out j (by omega))).trans hu
      have HN1 : Hid (∀ j u, (iF (fun v => gi fr (c + v)) m1)[j]? = some u → ((w1.drew).alloc (.cells #[] 3)).cell? ((⟨b, off + c, none⟩ : Addr).add j) = some u) := by
        intro j u hu
        have hj : j < m1 := by rw [← iF_length (fun v => gi fr (c + v)) m1]; exact (List.getElem?_eq_some_iff.1 hu).1
        have hblk1 := hblk1 (by have := HM1.out; omega)
        rw [iF_at _ hj] at hu
        have e2 : (⟨b, off + c, none⟩ : Addr).add j = ⟨b, off + (c + j), none⟩ := by unfold Addr.add; split <;> simp_all; omega
        rw [e2]
        exact ((World.cell?_alloc_lt _ _ _ (by simpa using hblk1)).trans (HCELL.out (c + j) (by have := HM1.out; omega))).trans hu
      by_cases hcc : ca = c
      · have hm10 : m1 = 0 := by omega
        have HM10 := Lib.hid hm10
        clear hm10
        subst hcc
        go_wp2
        go_region_law ((first
          | (refine step_append_some (by rfl) (.tmp 49) (.tmp 52) 22 (by rfl) w1.heap.size 3 i0 (.int .i64 0) 8 Try.underlying22 hi hz0 hz1 hz2 rfl w1.heap.size 0 0 [] (by rfl) ((World.ownsRow_made w1.drew #[] 0 (Nat.le_refl _) (Nat.zero_le _) rfl)) ⟨b, off, none⟩ m1 0 (iF (fun v => gi fr (ca + v)) m1) (by rfl) (by rw [iF_length, Nat.mul_one]) (by intro j u hu; have hj := (List.getElem?_eq_some_iff.1 hu).1; rw [iF_length] at hj; have := HM10.out; omega) (iF_one _ _) (by unfold maxLen; omega) (by omega) (by simp) ?_; intro g1 c1 w5 hown5 hgrow5; rw [Nat.zero_add, List.nil_append] at hown5)
          | (refine step_append_some (by rfl) (.tmp 53) (.tmp 56) 22 (by rfl) w1.heap.size 3 i0 (.int .i64 0) 8 Try.underlying22 hi hz0 hz1 hz2 rfl g1 m1 c1 (iF (fun v => gi fr (ca + v)) m1) (by rfl) hown5 ⟨b, off, none⟩ ca ca (iF (gi fr) ca) (by rfl) (by rw [iF_length, Nat.mul_one]) (HN2.out w5 hgrow5) (iF_one _ _) (by unfold maxLen; omega) (by omega) (by have := hgrow5.size; simp at this; omega) ?_; intro g2 c2 w6 hown6 hgrow6)))
        have hown7 : w6.ownsRow w1.heap.size 3 1 (.slice (some ⟨g2, 0, none⟩) k c2) k (iF (turnF fr k ca) k) := by
          have e1 : m1 + ca = k := by have := HM1.out; omega
          rw [iF_app _ _ m1 ca (turnF fr k ca) (fun v hv => by
            have := HM1.out
            unfold turnF rotP
            rw [if_pos (by omega), if_pos (by omega), Nat.add_comm]) (fun v hv => by
            have := HM1.out
            unfold turnF rotP
            rw [if_pos (by omega), if_neg (by omega), show m1 + v - (k - ca) = v by omega]), e1] at hown6
          exact hown6
        have hB6 : Below w1.heap.size w1 w6 := by
          have hg1 := (hown5.lt g1 rfl).1
          have h1 : Below w1.heap.size w1 w5 := (((Below.refl w1.heap.size w1).drew).alloc (Nat.le_refl _) _).grown hgrow5 (by simp) (fun j hj => by cases hj; exact Nat.le_refl _)
          exact h1.grown hgrow6 h1.size (fun j hj => by cases hj; exact hg1)
        have e1 : m1 + ca = k := by have := HM1.out; omega
        rw [e1]
        clear hown6 hgrow6 hown5 hgrow5 HN1 HN2
        have HFR : Hid (∀ i, i < k → 0 ≤ gi fr i ∧ gi fr i ≤ 1073741824) := fun i hi => by have := hs.out i hi; omega
        have hpw : 128 ≤ 2 ^ Lk := by
          have h1 := pow_mono hL7
          have h2 : (2 : Nat) ^ 7 = 128 := rfl
          omega
        have HPW := Lib.hid hpw
        have hLc : 1 ≤ (Lk : Int) ∧ (Lk : Int) ≤ 15 := by omega
        have hcan := comeN_len fr k
        have HNO1 : Hid (chkE fr k (Lk : Int) = 0) := chk_of hLc (by omega) HFR.out (by rw [Int.toNat_natCast]; omega)
        have hTr : ∀ i, i < k + 2 → 0 ≤ gi (lsF (turnF fr k ca) (k + 2)) i ∧ gi (lsF (turnF fr k ca) (k + 2)) i ≤ 1073741824 := fun i hi => by
          rw [lsF_at _ hi]
          unfold turnF
          split
          · rename_i h
            exact HFR.out _ (rotP_lt (by omega) h)
          · omega
        have hcan2 := comeN_len (lsF (turnF fr k ca) (k + 2)) (k + 2)
        have HNO2 : Hid (chkE (lsF (turnF fr k ca) (k + 2)) (k + 2) (Lk : Int) = 0) := chk_of hLc (by omega) hTr (by rw [Int.toNat_natCast]; omega)
        have hMr : ∀ i, i < k + 1 → 0 ≤ gi (lsF (moreF fr k) (k + 1)) i ∧ gi (lsF (moreF fr k) (k + 1)) i ≤ 1073741824 := fun i hi => by
          rw [lsF_at _ hi]
          unfold moreF
          split
          · rename_i h
            exact HFR.out _ h
          · omega
        have hcan3 := comeN_len (lsF (moreF fr k) (k + 1)) (k + 1)
        have HNO3 : Hid (chkE (lsF (moreF fr k) (k + 1)) (k + 1) (Lk : Int) = 0) := chk_of hLc (by omega) hMr (by rw [Int.toNat_natCast]; omega)
        have HTR := Lib.hid hTr
        have HMR := Lib.hid hMr
        have hT2 : Hid (iF (turnF fr k ca) k ++ [.int .i64 0, .int .i64 0] = iF (turnF fr k ca) (k + 2)) := by
          unfold Hid
          rw [iF_succ, iF_succ, List.append_assoc]
          have h1 : turnF fr k ca k = 0 := if_neg (by omega)
          have h2 : turnF fr k ca (k + 1) = 0 := if_neg (by omega)
          rw [h1, h2]
          rfl
        have hM1 : Hid (iF (gi fr) k ++ [.int .i64 1] = iF (moreF fr k) (k + 1)) := by
          unfold Hid
          rw [iF_succ, iF_congr (g := moreF fr k) (fun v hv => (if_pos hv).symm)]
          have h1 : moreF fr k k = 1 := if_neg (by omega)
          rw [h1]
        have hNEW : ∀ W : World, Below w1.heap.size w1 W → ∀ j u, (iF (gi fr) k)[j]? = some u → W.cell? ((⟨b, off, none⟩ : Addr).add j) = some u := by
          intro W hW j u hu
          have hj : j < k := by rw [← iF_length (gi fr) k]; exact (List.getElem?_eq_some_iff.1 hu).1
          have hblk1 := hblk1 (by omega)
          rw [iF_at _ hj] at hu
          have e2 : (⟨b, off, none⟩ : Addr).add j = ⟨b, off + j, none⟩ := by unfold Addr.add; split <;> simp_all
          rw [e2]
          exact ((hW.cell (p := ⟨b, off + j, none⟩) hblk1).trans (HCELL.out j hj)).trans hu
        have HNEW := Lib.hid hNEW
        clear hTr hMr hpw hcan hcan2 hcan3 hLc hNEW e1
        have hBB6 := hb1.trans (hB6.mono hb1.size)
        go_wp2_with fail
        refine (Make_y (some ⟨b, off, none⟩) k ca fr Lk w6 (ha1.below hB6) HNO1.out).mono ?_
        rintro e w7 ⟨ga, rfl, A1, hr1, hga, hx1, hb7⟩
        rw [Int.toNat_natCast] at hx1
        have hT7 := own_below hown7 hb7
        have hg26 := (hown7.lt g2 rfl).2
        have hB7 := hB6.trans (hb7.mono hB6.size)
        have hs7 := hB7.size
        have HX1 := Lib.hid hx1
        clear hown7 hb7 hB6 hBB6 hx1
        go_wp2_with (at_builtin; refine wpList_append_keeps _ rfl _ _ 22 rfl w1.heap.size 3 i0 (.int .i64 0) 8 Try.underlying22 hi hz0 hz1 hz2 rfl g2 k c2 (iF (turnF fr k ca) k) rfl (hT7.alloc _) ⟨w7.heap.size, 0, none⟩ 2 2 [.int .i64 0, .int .i64 0] rfl rfl (two_cellF w7) (by intro u hu; simp at hu; subst hu; rfl) (by unfold maxLen; omega) (by omega) (by simp; omega) ?_; intro v8 w8 hown8 hkeep8 hgrow8; obtain ⟨O8, c8, hv8, _⟩ := own_shape hown8; subst hv8)
        rw [hT2.out] at hown8
        have hB8 : Below w1.heap.size w1 w8 := (hB7.alloc hs7 _).grown hgrow8 (by simp; omega) (fun j hj => by cases hj; exact (hT7.lt _ rfl).1)
        have hr18 : IRow w8 (some ⟨ga, 0, none⟩) k .i64 (nI (arr A1 k)) := IRow.kept9 (hr1.alloc _) hgrow8 (fun h0 e => by injection e with e; omega)
        have hg28 := (hkeep8.lt g2 rfl).2
        refine (Make_y O8 (k + 2) c8 (lsF (turnF fr k ca) (k + 2)) Lk w8 (IRow.ofF hown8 (fun v hv => by have := HTR.out v hv; rw [lsF_at _ hv] at this; omega) (by omega)) HNO2.out).mono ?_
        rintro e w9 ⟨gb, rfl, B1, hr2, hgb, hx2, hb9⟩
        rw [Int.toNat_natCast] at hx2
        have hr19 := hr18.below hb9
        have hsz89 := hb9.size
        have hT9 := own_below hkeep8 hb9
        have hB9 := hB8.trans (hb9.mono hB8.size)
        have hs9 := hB9.size
        have HX2 := Lib.hid hx2
        clear hkeep8 hown8 hr18 hr1 hT7 hb9 hx2 hB7 hgrow8
        go_wp2_with (at_builtin; first
          | (refine wpList_append_own _ rfl (.tmp 73) (.tmp 74) 22 rfl w9.heap.size 3 i0 (.int .i64 0) 1 8 Try.underlying22 hi hz0 hz1 hz2 rfl (by decide) (.slice (some ⟨w9.heap.size, 0, none⟩) 0 0) 0 [] rfl (World.ownsRow_made w9 #[] 0 (Nat.le_refl _) (Nat.zero_le _) rfl) ⟨b, off, none⟩ k ca (iF (gi fr) k) rfl (by rw [iF_length, Nat.mul_one]) (HNEW.out _ (hB9.alloc hs9 _)) (iF_one _ _) (by unfold maxLen; omega) (by omega) (by simp) ?_; intro v10 w10 hown10 hgrow10 hnil10; obtain ⟨A10, c10, hv10, _⟩ := own_shape hown10; rw [Nat.zero_add] at hv10 hown10; rw [List.nil_append] at hown10; subst hv10; have hb910 : Below w9.heap.size w9 w10 := ((Below.refl w9.heap.size w9).alloc (Nat.le_refl _) _).grown hgrow10 (by simp) (fun j hj => by cases hj; exact Nat.le_refl _); have hs910 := hb910.size)
          | (refine wpList_append_own _ rfl (.tmp 75) (.tmp 76) 22 rfl w9.heap.size 3 i0 (.int .i64 0) 1 8 Try.underlying22 hi hz0 hz1 hz2 rfl (by decide) (.slice A10 k c10) k (iF (gi fr) k) rfl (hown10.alloc _) ⟨w10.heap.size, 0, none⟩ 1 1 [.int .i64 1] rfl rfl (one_cellF w10 1) (by intro u hu; simp at hu; subst hu; rfl) (by unfold maxLen; omega) (by omega) (by simp; omega) ?_; intro v11 w11 hown11 hgrow11 hnil11; obtain ⟨A11, c11, hv11, _⟩ := own_shape hown11; subst hv11))
        rw [hM1.out] at hown11
        have hb911 : Below w9.heap.size w9 w11 := (hb910.alloc hs910 _).grown hgrow11 (by simp; omega) (fun j hj => (hown10.lt j hj).1)
        have hr111 := hr19.below hb911
        have hr211 := hr2.below hb911
        have hT11 := own_below hT9 hb911
        have hB11 := hB9.trans (hb911.mono hs9)
        have hsz911 := hb911.size
        refine (Make_y A11 (k + 1) c11 (lsF (moreF fr k) (k + 1)) Lk w11 (IRow.ofF hown11 (fun v hv => by have := HMR.out v hv; rw [lsF_at _ hv] at this; omega) (by omega)) HNO3.out).mono ?_
        rintro e w12 ⟨gc, rfl, C1, hr3, hgc, hx3, hb12⟩
        rw [Int.toNat_natCast] at hx3
        have hr112 := hr111.below hb12
        have hr212 := hr211.below hb12
        have hT12 := own_below hT11 hb12
        have hB12 := hB11.trans (hb12.mono hB11.size)
        have ha12 := ha1.below hB12
        have HX3 := Lib.hid hx3
        have hg2b : 0 < k + 2 → g2 ≠ gb := fun h e => by have := hgb h; omega
        have hg2c : 0 < k + 1 → g2 ≠ gc := fun h e => by have := hgc h; omega
        clear hr111 hr211 hT11 hB11 hb12 hx3 hown11 hgrow11 hown10 hgrow10 hb911 hr19 hr2 hT9 hB9 hb910
        have m1c := turn_cost (show ca ≤ k by omega) HX1.out HX2.out
        have m2c := more_one HX1.out HX3.out
        have q1 := cst_madeX HX1.out hL15 HFR.out k (Nat.le_refl _)
        have q2 := cst_madeX HX2.out hL15 HTR.out (k + 2) (Nat.le_refl _)
        have q3 := cst_madeX HX3.out hL15 HMR.out (k + 1) (Nat.le_refl _)
        rw [← q1, ← q2] at m1c
        rw [← q1, ← q3] at m2c
        have C1c := fun W h1 h2 => Cost_c (some ⟨b, off, none⟩) (some ⟨ga, 0, none⟩) k k ca k fr (nI (arr A1 k)) W h1 h2 (by omega) (by omega)
        rw [Nat.min_self] at C1c
        obtain ⟨x1, hx1⟩ : ∃ x1, x1 = cst fr (nI (arr A1 k)) k := ⟨_, rfl⟩
        rw [← hx1] at m1c m2c C1c
        clear q1 q2 q3 hx1
        go_wp2_with fail
        refine (C1c w12 ha12 hr112).mono ?_
        rintro e w13 ⟨rfl, q13, rfl⟩
        have hr213 := hr212.drewN q13
        have hr313 := hr3.drewN q13
        have hT13 : (w12.drewN q13).ownsRow w1.heap.size 3 1 (.slice (some ⟨g2, 0, none⟩) k c2) k (iF (turnF fr k ca) k) := hT12
        have hB13 := below_drewN hB12 q13
        generalize w12.drewN q13 = w13 at *
        have hs13 := hB13.size
        clear hr112 hr212 hr3 hT12 hB12 ha12
        go_wp2_with (at_builtin; refine wpList_append_own_w9 (show Region.wanted _ (yielded _ _) = true from rfl) (.tmp 96) (.tmp 97) 22 rfl w1.heap.size 3 i0 (.int .i64 0) 1 8 Try.underlying22 hi hz0 hz1 hz2 rfl (by decide) (.slice (some ⟨g2, 0, none⟩) k c2) k (iF (turnF fr k ca) k) rfl (hT13.alloc _) ⟨w13.heap.size, 0, none⟩ 2 2 [.int .i64 0, .int .i64 0] rfl rfl (two_cellF w13) (by intro u hu; simp at hu; subst hu; rfl) (by unfold maxLen; omega) (by omega) (by simp; omega) ?_; intro v14 w14 hown14 hgrow14; obtain ⟨O14, c14, hv14, _⟩ := own_shape hown14; subst hv14)
        rw [hT2.out] at hown14
        have hr214 : IRow w14 (some ⟨gb, 0, none⟩) (k + 2) .i64 (nI (arr B1 (k + 2))) := IRow.kept9 (hr213.alloc _) hgrow14 (fun h0 e => by injection e with e; exact hg2b h0 e)
        have hB14 : Below w1.heap.size w1 w14 := (hB13.alloc hs13 _).grown hgrow14 (by simp; omega) (fun j hj => by cases hj; exact (hT13.lt _ rfl).1)
        have hr314 : IRow w14 (some ⟨gc, 0, none⟩) (k + 1) .i64 (nI (arr C1 (k + 1))) := IRow.kept9 (hr313.alloc _) hgrow14 (fun h0 e => by injection e with e; exact hg2c h0 e)
        clear hr213 hr313 hT13 hB13 hgrow14
        refine (Cost_c O14 (some ⟨gb, 0, none⟩) (k + 2) (k + 2) c14 (k + 2) (lsF (turnF fr k ca) (k + 2)) (nI (arr B1 (k + 2))) w14 (IRow.ofF hown14 (fun v hv => by have := HTR.out v hv; rw [lsF_at _ hv] at this; omega) (by omega)) hr214 (by omega) (by omega)).mono ?_
        rintro e w15 ⟨rfl, q15, rfl⟩
        rw [Nat.min_self, m1c]
        have hr315 := hr314.drewN q15
        have hB15 := below_drewN hB14 q15
        generalize w14.drewN q15 = w15 at *
        have hs15 := hB15.size
        clear hown14 hr214 hr314 hB14
        go_wp2_with (at_builtin; first
          | (refine wpList_append_own_w9 (show Region.wanted _ (yielded _ _) = true from rfl) (.tmp 105) (.tmp 106) 22 rfl w15.heap.size 3 i0 (.int .i64 0) 1 8 Try.underlying22 hi hz0 hz1 hz2 rfl (by decide) (.slice (some ⟨w15.heap.size, 0, none⟩) 0 0) 0 [] rfl (World.ownsRow_made w15 #[] 0 (Nat.le_refl _) (Nat.zero_le _) rfl) ⟨b, off, none⟩ k ca (iF (gi fr) k) rfl (by rw [iF_length, Nat.mul_one]) (HNEW.out _ (hB15.alloc hs15 _)) (iF_one _ _) (by unfold maxLen; omega) (by omega) (by simp) ?_; intro v16 w16 hown16 hgrow16; obtain ⟨A16, c16, hv16, _⟩ := own_shape hown16; rw [Nat.zero_add] at hv16 hown16; rw [List.nil_append] at hown16; subst hv16; have hb1516 : Below w15.heap.size w15 w16 := ((Below.refl w15.heap.size w15).alloc (Nat.le_refl _) _).grown hgrow16 (by simp) (fun j hj => by cases hj; exact Nat.le_refl _); have hs1516 := hb1516.size)
          | (refine wpList_append_own_w9 (show Region.wanted _ (yielded _ _) = true from rfl) (.tmp 107) (.tmp 108) 22 rfl w15.heap.size 3 i0 (.int .i64 0) 1 8 Try.underlying22 hi hz0 hz1 hz2 rfl (by decide) (.slice A16 k c16) k (iF (gi fr) k) rfl (hown16.alloc _) ⟨w16.heap.size, 0, none⟩ 1 1 [.int .i64 1] rfl rfl (one_cellF w16 1) (by intro u hu; simp at hu; subst hu; rfl) (by unfold maxLen; omega) (by omega) (by simp; omega) ?_; intro v17 w17 hown17 hgrow17; obtain ⟨A17, c17, hv17, _⟩ := own_shape hown17; subst hv17))
        rw [hM1.out] at hown17
        have hb1517 : Below w15.heap.size w15 w17 := (hb1516.alloc hs1516 _).grown hgrow17 (by simp; omega) (fun j hj => (hown16.lt j hj).1)
        have hr317 := hr315.below hb1517
        have hB17 := hB15.trans (hb1517.mono hs15)
        refine (Cost_c A17 (some ⟨gc, 0, none⟩) (k + 1) (k + 1) c17 (k + 1) (lsF (moreF fr k) (k + 1)) (nI (arr C1 (k + 1))) w17 (IRow.ofF hown17 (fun v hv => by have := HMR.out v hv; rw [lsF_at _ hv] at this; omega) (by omega)) hr317 (by omega) (by omega)).mono ?_
        rintro e w18 ⟨rfl, q18, rfl⟩
        rw [Nat.min_self]
        have hB18 := below_drewN hB17 q18
        have m2i : (x1 : Int) < ((cst (lsF (moreF fr k) (k + 1)) (nI (arr C1 (k + 1))) (k + 1) : Nat) : Int) := by omega
        generalize cst (lsF (moreF fr k) (k + 1)) (nI (arr C1 (k + 1))) (k + 1) = x3 at *
        go_wp2
        go_ret
        exact ⟨rfl, hb1.trans (hB18.mono hb1.size)⟩
      · go_wp2
        go_region_law ((first
          | (refine step_append_some (by rfl) (.tmp 49) (.tmp 52) 22 (by rfl) w1.heap.size 3 i0 (.int .i64 0) 8 Try.underlying22 hi hz0 hz1 hz2 rfl w1.heap.size 0 0 [] (by rfl) ((World.ownsRow_made w1.drew #[] 0 (Nat.le_refl _) (Nat.zero_le _) rfl)) ⟨b, off + c, none⟩ m1 (ca - c) (iF (fun v => gi fr (c + v)) m1) (by rfl) (by rw [iF_length, Nat.mul_one]) (HN1.out) (iF_one _ _) (by unfold maxLen; omega) (by omega) (by simp) ?_; intro g1 c1 w5 hown5 hgrow5; rw [Nat.zero_add, List.nil_append] at hown5)
          | (refine step_append_some (by rfl) (.tmp 53) (.tmp 56) 22 (by rfl) w1.heap.size 3 i0 (.int .i64 0) 8 Try.underlying22 hi hz0 hz1 hz2 rfl g1 m1 c1 (iF (fun v => gi fr (c + v)) m1) (by rfl) hown5 ⟨b, off, none⟩ c ca (iF (gi fr) c) (by rfl) (by rw [iF_length, Nat.mul_one]) (HN2.out w5 hgrow5) (iF_one _ _) (by unfold maxLen; omega) (by omega) (by have := hgrow5.size; simp at this; omega) ?_; intro g2 c2 w6 hown6 hgrow6)))
        have hown7 : w6.ownsRow w1.heap.size 3 1 (.slice (some ⟨g2, 0, none⟩) k c2) k (iF (turnF fr k c) k) := by
          have e1 : m1 + c = k := by have := HM1.out; omega
          rw [iF_app _ _ m1 c (turnF fr k c) (fun v hv => by
            have := HM1.out
            unfold turnF rotP
            rw [if_pos (by omega), if_pos (by omega), Nat.add_comm]) (fun v hv => by
            have := HM1.out
            unfold turnF rotP
            rw [if_pos (by omega), if_neg (by omega), show m1 + v - (k - c) = v by omega]), e1] at hown6
          exact hown6
        have hB6 : Below w1.heap.size w1 w6 := by
          have hg1 := (hown5.lt g1 rfl).1
          have h1 : Below w1.heap.size w1 w5 := (((Below.refl w1.heap.size w1).drew).alloc (Nat.le_refl _) _).grown hgrow5 (by simp) (fun j hj => by cases hj; exact Nat.le_refl _)
          exact h1.grown hgrow6 h1.size (fun j hj => by cases hj; exact hg1)
        have e1 : m1 + c = k := by have := HM1.out; omega
        rw [e1]
        clear hown6 hgrow6 hown5 hgrow5 HN1 HN2
        have HFR : Hid (∀ i, i < k → 0 ≤ gi fr i ∧ gi fr i ≤ 1073741824) := fun i hi => by have := hs.out i hi; omega
        have hpw : 128 ≤ 2 ^ Lk := by
          have h1 := pow_mono hL7
          have h2 : (2 : Nat) ^ 7 = 128 := rfl
          omega
        have HPW := Lib.hid hpw
        have hLc : 1 ≤ (Lk : Int) ∧ (Lk : Int) ≤ 15 := by omega
        have hcan := comeN_len fr k
        have HNO1 : Hid (chkE fr k (Lk : Int) = 0) := chk_of hLc (by omega) HFR.out (by rw [Int.toNat_natCast]; omega)
        have hTr : ∀ i, i < k + 2 → 0 ≤ gi (lsF (turnF fr k c) (k + 2)) i ∧ gi (lsF (turnF fr k c) (k + 2)) i ≤ 1073741824 := fun i hi => by
          rw [lsF_at _ hi]
          unfold turnF
          split
          · rename_i h
            exact HFR.out _ (rotP_lt (by omega) h)
          · omega
        have hcan2 := comeN_len (lsF (turnF fr k c) (k + 2)) (k + 2)
        have HNO2 : Hid (chkE (lsF (turnF fr k c) (k + 2)) (k + 2) (Lk : Int) = 0) := chk_of hLc (by omega) hTr (by rw [Int.toNat_natCast]; omega)
        have hMr : ∀ i, i < k + 1 → 0 ≤ gi (lsF (moreF fr k) (k + 1)) i ∧ gi (lsF (moreF fr k) (k + 1)) i ≤ 1073741824 := fun i hi => by
          rw [lsF_at _ hi]
          unfold moreF
          split
          · rename_i h
            exact HFR.out _ h
          · omega
        have hcan3 := comeN_len (lsF (moreF fr k) (k + 1)) (k + 1)
        have HNO3 : Hid (chkE (lsF (moreF fr k) (k + 1)) (k + 1) (Lk : Int) = 0) := chk_of hLc (by omega) hMr (by rw [Int.toNat_natCast]; omega)
        have HTR := Lib.hid hTr
        have HMR := Lib.hid hMr
        have hT2 : Hid (iF (turnF fr k c) k ++ [.int .i64 0, .int .i64 0] = iF (turnF fr k c) (k + 2)) := by
          unfold Hid
          rw [iF_succ, iF_succ, List.append_assoc]
          have h1 : turnF fr k c k = 0 := if_neg (by omega)
          have h2 : turnF fr k c (k + 1) = 0 := if_neg (by omega)
          rw [h1, h2]
          rfl
        have hM1 : Hid (iF (gi fr) k ++ [.int .i64 1] = iF (moreF fr k) (k + 1)) := by
          unfold Hid
          rw [iF_succ, iF_congr (g := moreF fr k) (fun v hv => (if_pos hv).symm)]
          have h1 : moreF fr k k = 1 := if_neg (by omega)
          rw [h1]
        have hNEW : ∀ W : World, Below w1.heap.size w1 W → ∀ j u, (iF (gi fr) k)[j]? = some u → W.cell? ((⟨b, off, none⟩ : Addr).add j) = some u := by
          intro W hW j u hu
          have hj : j < k := by rw [← iF_length (gi fr) k]; exact (List.getElem?_eq_some_iff.1 hu).1
          have hblk1 := hblk1 (by omega)
          rw [iF_at _ hj] at hu
          have e2 : (⟨b, off, none⟩ : Addr).add j = ⟨b, off + j, none⟩ := by unfold Addr.add; split <;> simp_all
          rw [e2]
          exact ((hW.cell (p := ⟨b, off + j, none⟩) hblk1).trans (HCELL.out j hj)).trans hu
        have HNEW := Lib.hid hNEW
        clear hTr hMr hpw hcan hcan2 hcan3 hLc hNEW e1
        have hBB6 := hb1.trans (hB6.mono hb1.size)
        go_wp2_with fail
        refine (Make_y (some ⟨b, off, none⟩) k ca fr Lk w6 (ha1.below hB6) HNO1.out).mono ?_
        rintro e w7 ⟨ga, rfl, A1, hr1, hga, hx1, hb7⟩
        rw [Int.toNat_natCast] at hx1
        have hT7 := own_below hown7 hb7
        have hg26 := (hown7.lt g2 rfl).2
        have hB7 := hB6.trans (hb7.mono hB6.size)
        have hs7 := hB7.size
        have HX1 := Lib.hid hx1
        clear hown7 hb7 hB6 hBB6 hx1
        go_wp2_with (at_builtin; refine wpList_append_keeps _ rfl _ _ 22 rfl w1.heap.size 3 i0 (.int .i64 0) 8 Try.underlying22 hi hz0 hz1 hz2 rfl g2 k c2 (iF (turnF fr k c) k) rfl (hT7.alloc _) ⟨w7.heap.size, 0, none⟩ 2 2 [.int .i64 0, .int .i64 0] rfl rfl (two_cellF w7) (by intro u hu; simp at hu; subst hu; rfl) (by unfold maxLen; omega) (by omega) (by simp; omega) ?_; intro v8 w8 hown8 hkeep8 hgrow8; obtain ⟨O8, c8, hv8, _⟩ := own_shape hown8; subst hv8)
        rw [hT2.out] at hown8
        have hB8 : Below w1.heap.size w1 w8 := (hB7.alloc hs7 _).grown hgrow8 (by simp; omega) (fun j hj => by cases hj; exact (hT7.lt _ rfl).1)
        have hr18 : IRow w8 (some ⟨ga, 0, none⟩) k .i64 (nI (arr A1 k)) := IRow.kept9 (hr1.alloc _) hgrow8 (fun h0 e => by injection e with e; omega)
        have hg28 := (hkeep8.lt g2 rfl).2
        refine (Make_y O8 (k + 2) c8 (lsF (turnF fr k c) (k + 2)) Lk w8 (IRow.ofF hown8 (fun v hv => by have := HTR.out v hv; rw [lsF_at _ hv] at this; omega) (by omega)) HNO2.out).mono ?_
        rintro e w9 ⟨gb, rfl, B1, hr2, hgb, hx2, hb9⟩
        rw [Int.toNat_natCast] at hx2
        have hr19 := hr18.below hb9
        have hsz89 := hb9.size
        have hT9 := own_below hkeep8 hb9
        have hB9 := hB8.trans (hb9.mono hB8.size)
        have hs9 := hB9.size
        have HX2 := Lib.hid hx2
        clear hkeep8 hown8 hr18 hr1 hT7 hb9 hx2 hB7 hgrow8
        go_wp2_with (at_builtin; first
          | (refine wpList_append_own _ rfl (.tmp 73) (.tmp 74) 22 rfl w9.heap.size 3 i0 (.int .i64 0) 1 8 Try.underlying22 hi hz0 hz1 hz2 rfl (by decide) (.slice (some ⟨w9.heap.size, 0, none⟩) 0 0) 0 [] rfl (World.ownsRow_made w9 #[] 0 (Nat.le_refl _) (Nat.zero_le _) rfl) ⟨b, off, none⟩ k ca (iF (gi fr) k) rfl (by rw [iF_length, Nat.mul_one]) (HNEW.out _ (hB9.alloc hs9 _)) (iF_one _ _) (by unfold maxLen; omega) (by omega) (by simp) ?_; intro v10 w10 hown10 hgrow10 hnil10; obtain ⟨A10, c10, hv10, _⟩ := own_shape hown10; rw [Nat.zero_add] at hv10 hown10; rw [List.nil_append] at hown10; subst hv10; have hb910 : Below w9.heap.size w9 w10 := ((Below.refl w9.heap.size w9).alloc (Nat.le_refl _) _).grown hgrow10 (by simp) (fun j hj => by cases hj; exact Nat.le_refl _); have hs910 := hb910.size)
          | (refine wpList_append_own _ rfl (.tmp 75) (.tmp 76) 22 rfl w9.heap.size 3 i0 (.int .i64 0) 1 8 Try.underlying22 hi hz0 hz1 hz2 rfl (by decide) (.slice A10 k c10) k (iF (gi fr) k) rfl (hown10.alloc _) ⟨w10.heap.size, 0, none⟩ 1 1 [.int .i64 1] rfl rfl (one_cellF w10 1) (by intro u hu; simp at hu; subst hu; rfl) (by unfold maxLen; omega) (by omega) (by simp; omega) ?_; intro v11 w11 hown11 hgrow11 hnil11; obtain ⟨A11, c11, hv11, _⟩ := own_shape hown11; subst hv11))
        rw [hM1.out] at hown11
        have hb911 : Below w9.heap.size w9 w11 := (hb910.alloc hs910 _).grown hgrow11 (by simp; omega) (fun j hj => (hown10.lt j hj).1)
        have hr111 := hr19.below hb911
        have hr211 := hr2.below hb911
        have hT11 := own_below hT9 hb911
        have hB11 := hB9.trans (hb911.mono hs9)
        have hsz911 := hb911.size
        refine (Make_y A11 (k + 1) c11 (lsF (moreF fr k) (k + 1)) Lk w11 (IRow.ofF hown11 (fun v hv => by have := HMR.out v hv; rw [lsF_at _ hv] at this; omega) (by omega)) HNO3.out).mono ?_
        rintro e w12 ⟨gc, rfl, C1, hr3, hgc, hx3, hb12⟩
        rw [Int.toNat_natCast] at hx3
        have hr112 := hr111.below hb12
        have hr212 := hr211.below hb12
        have hT12 := own_below hT11 hb12
        have hB12 := hB11.trans (hb12.mono hB11.size)
        have ha12 := ha1.below hB12
        have HX3 := Lib.hid hx3
        have hg2b : 0 < k + 2 → g2 ≠ gb := fun h e => by have := hgb h; omega
        have hg2c : 0 < k + 1 → g2 ≠ gc := fun h e => by have := hgc h; omega
        clear hr111 hr211 hT11 hB11 hb12 hx3 hown11 hgrow11 hown10 hgrow10 hb911 hr19 hr2 hT9 hB9 hb910
        have m1c := turn_cost (show c ≤ k by omega) HX1.out HX2.out
        have m2c := more_one HX1.out HX3.out
        have q1 := cst_madeX HX1.out hL15 HFR.out k (Nat.le_refl _)
        have q2 := cst_madeX HX2.out hL15 HTR.out (k + 2) (Nat.le_refl _)
        have q3 := cst_madeX HX3.out hL15 HMR.out (k + 1) (Nat.le_refl _)
        rw [← q1, ← q2] at m1c
        rw [← q1, ← q3] at m2c
        have C1c := fun W h1 h2 => Cost_c (some ⟨b, off, none⟩) (some ⟨ga, 0, none⟩) k k ca k fr (nI (arr A1 k)) W h1 h2 (by omega) (by omega)
        rw [Nat.min_self] at C1c
        obtain ⟨x1, hx1⟩ : ∃ x1, x1 = cst fr (nI (arr A1 k)) k := ⟨_, rfl⟩
        rw [← hx1] at m1c m2c C1c
        clear q1 q2 q3 hx1
        go_wp2_with fail
        refine (C1c w12 ha12 hr112).mono ?_
        rintro e w13 ⟨rfl, q13, rfl⟩
        have hr213 := hr212.drewN q13
        have hr313 := hr3.drewN q13
        have hT13 : (w12.drewN q13).ownsRow w1.heap.size 3 1 (.slice (some ⟨g2, 0, none⟩) k c2) k (iF (turnF fr k c) k) := hT12
        have hB13 := below_drewN hB12 q13
        generalize w12.drewN q13 = w13 at *
        have hs13 := hB13.size
        clear hr112 hr212 hr3 hT12 hB12 ha12
        go_wp2_with (at_builtin; refine wpList_append_own_w9 (show Region.wanted _ (yielded _ _) = true from rfl) (.tmp 96) (.tmp 97) 22 rfl w1.heap.size 3 i0 (.int .i64 0) 1 8 Try.underlying22 hi hz0 hz1 hz2 rfl (by decide) (.slice (some ⟨g2, 0, none⟩) k c2) k (iF (turnF fr k c) k) rfl (hT13.alloc _) ⟨w13.heap.size, 0, none⟩ 2 2 [.int .i64 0, .int .i64 0] rfl rfl (two_cellF w13) (by intro u hu; simp at hu; subst hu; rfl) (by unfold maxLen; omega) (by omega) (by simp; omega) ?_; intro v14 w14 hown14 hgrow14; obtain ⟨O14, c14, hv14, _⟩ := own_shape hown14; subst hv14)
        rw [hT2.out] at hown14
        have hr214 : IRow w14 (some ⟨gb, 0, none⟩) (k + 2) .i64 (nI (arr B1 (k + 2))) := IRow.kept9 (hr213.alloc _) hgrow14 (fun h0 e => by injection e with e; exact hg2b h0 e)
        have hB14 : Below w1.heap.size w1 w14 := (hB13.alloc hs13 _).grown hgrow14 (by simp; omega) (fun j hj => by cases hj; exact (hT13.lt _ rfl).1)
        have hr314 : IRow w14 (some ⟨gc, 0, none⟩) (k + 1) .i64 (nI (arr C1 (k + 1))) := IRow.kept9 (hr313.alloc _) hgrow14 (fun h0 e => by injection e with e; exact hg2c h0 e)
        clear hr213 hr313 hT13 hB13 hgrow14
        refine (Cost_c O14 (some ⟨gb, 0, none⟩) (k + 2) (k + 2) c14 (k + 2) (lsF (turnF fr k c) (k + 2)) (nI (arr B1 (k + 2))) w14 (IRow.ofF hown14 (fun v hv => by have := HTR.out v hv; rw [lsF_at _ hv] at this; omega) (by omega)) hr214 (by omega) (by omega)).mono ?_
        rintro e w15 ⟨rfl, q15, rfl⟩
        rw [Nat.min_self, m1c]
        have hr315 := hr314.drewN q15
        have hB15 := below_drewN hB14 q15
        generalize w14.drewN q15 = w15 at *
        have hs15 := hB15.size
        clear hown14 hr214 hr314 hB14
        go_wp2_with (at_builtin; first
          | (refine wpList_append_own_w9 (show Region.wanted _ (yielded _ _) = true from rfl) (.tmp 105) (.tmp 106) 22 rfl w15.heap.size 3 i0 (.int .i64 0) 1 8 Try.underlying22 hi hz0 hz1 hz2 rfl (by decide) (.slice (some ⟨w15.heap.size, 0, none⟩) 0 0) 0 [] rfl (World.ownsRow_made w15 #[] 0 (Nat.le_refl _) (Nat.zero_le _) rfl) ⟨b, off, none⟩ k ca (iF (gi fr) k) rfl (by rw [iF_length, Nat.mul_one]) (HNEW.out _ (hB15.alloc hs15 _)) (iF_one _ _) (by unfold maxLen; omega) (by omega) (by simp) ?_; intro v16 w16 hown16 hgrow16; obtain ⟨A16, c16, hv16, _⟩ := own_shape hown16; rw [Nat.zero_add] at hv16 hown16; rw [List.nil_append] at hown16; subst hv16; have hb1516 : Below w15.heap.size w15 w16 := ((Below.refl w15.heap.size w15).alloc (Nat.le_refl _) _).grown hgrow16 (by simp) (fun j hj => by cases hj; exact Nat.le_refl _); have hs1516 := hb1516.size)
          | (refine wpList_append_own_w9 (show Region.wanted _ (yielded _ _) = true from rfl) (.tmp 107) (.tmp 108) 22 rfl w15.heap.size 3 i0 (.int .i64 0) 1 8 Try.underlying22 hi hz0 hz1 hz2 rfl (by decide) (.slice A16 k c16) k (iF (gi fr) k) rfl (hown16.alloc _) ⟨w16.heap.size, 0, none⟩ 1 1 [.int .i64 1] rfl rfl (one_cellF w16 1) (by intro u hu; simp at hu; subst hu; rfl) (by unfold maxLen; omega) (by omega) (by simp; omega) ?_; intro v17 w17 hown17 hgrow17; obtain ⟨A17, c17, hv17, _⟩ := own_shape hown17; subst hv17))
        rw [hM1.out] at hown17
        have hb1517 : Below w15.heap.size w15 w17 := (hb1516.alloc hs1516 _).grown hgrow17 (by simp; omega) (fun j hj => (hown16.lt j hj).1)
        have hr317 := hr315.below hb1517
        have hB17 := hB15.trans (hb1517.mono hs15)
        refine (Cost_c A17 (some ⟨gc, 0, none⟩) (k + 1) (k + 1) c17 (k + 1) (lsF (moreF fr k) (k + 1)) (nI (arr C1 (k + 1))) w17 (IRow.ofF hown17 (fun v hv => by have := HMR.out v hv; rw [lsF_at _ hv] at this; omega) (by omega)) hr317 (by omega) (by omega)).mono ?_
        rintro e w18 ⟨rfl, q18, rfl⟩
        rw [Nat.min_self]
        have hB18 := below_drewN hB17 q18
        have m2i : (x1 : Int) < ((cst (lsF (moreF fr k) (k + 1)) (nI (arr C1 (k + 1))) (k + 1) : Nat) : Int) := by omega
        generalize cst (lsF (moreF fr k) (k + 1)) (nI (arr C1 (k + 1))) (k + 1) = x3 at *
        go_wp2
        go_ret
        exact ⟨rfl, hb1.trans (hB18.mono hb1.size)⟩
end Go.Proofs.Ytfnjjeopojdnjaa
