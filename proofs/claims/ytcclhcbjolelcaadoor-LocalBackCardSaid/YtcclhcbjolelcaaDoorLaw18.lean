/-
  LAW 18: the law's own example. No conditions (but that the table of months lies as the program's text lays it).
-/
import Derived.Test.YtcclhcbjolelcaaDoorLoco
namespace Go.Proofs.YtcclhcbjolelcaaDoor
open Go.RowKit
set_option maxRecDepth 100000
set_option linter.unusedVariables false

theorem own_firstB {w : World} {base g c n m : Nat} {e : TypeId} {xs ys : List Value} (h : w.ownsRow base e 1 (.slice (some ⟨g, 0, none⟩) (n + m) c) (n + m) (xs ++ ys)) (hx : xs.length = n) : w.ownsRow base e 1 (.slice (some ⟨g, 0, none⟩) n c) n xs := by
  refine ⟨by omega, ?_⟩
  rcases h.2 with ⟨hv, _⟩ | ⟨g', cap', cur, hv, hb, hg, h1, h2, h3, h4⟩
  · cases hv
  · injection hv with hv1 _ hv3
    injection hv1 with hv1
    injection hv1 with hv1
    subst hv1 hv3
    refine .inr ⟨g, c, cur, rfl, hb, hg, by omega, h2, h3, ?_⟩
    have h5 := congrArg (List.take n) h4
    rw [List.take_take, List.take_append_of_le_length (show n ≤ xs.length by omega), List.take_of_length_le (show xs.length ≤ n by omega)] at h5
    rw [Nat.mul_one, ← h5]
    congr 1
    omega
theorem wpList_append_keepsB {P : Program} (w : World) {ops : Array Oper} {rest : List Oper} {o : Oper} {a : Act} {Q : Exit → Act → World → Prop}
    (hg : o.guard = none) (s x : Operand) (t : TypeId) (hop : o.op = Op.call { callee := Callee.builtin Builtin.append, args := #[s, x], argTypes := #[t, t] })
    (base : Nat) (e : TypeId) (i : TypeInfo) (z : Value) (bytes : Nat) (h1 : P.underlying t = some (.slice e)) (h2 : P.info? e = some i) (h3 : i.zero = some z) (h4 : i.size = 1) (h5 : i.bytes = bytes) (h6 : z.cells.size = 1)
    (g n cap : Nat) (xs : List Value) (hs : a.eval s = .slice (some ⟨g, 0, none⟩) n cap) (hown : w.ownsRow base e 1 (.slice (some ⟨g, 0, none⟩) n cap) n xs) (ad : Addr) (m c : Nat) (news : List Value) (hx : a.eval x = .slice (some ad) m c) (hn : news.length = m * 1)
    (hc : ∀ j u, news[j]? = some u → w.cell? (ad.add j) = some u) (h1c : ∀ u ∈ news, u.oneCell' = true) (b1 : n + m ≤ maxLen) (b2 : (n + m) * bytes ≤ 140737488355328) (hbase : base ≤ w.heap.size)
    (hK : ∀ v' w', w'.ownsRow base e 1 v' (n + m) (xs ++ news) → w'.ownsRow base e 1 (.slice (some ⟨g, 0, none⟩) n cap) n xs → w.grownBy w' (some g) → wpList P ops Q rest (a.put o.dst v') w') :
    wpList P ops Q (o :: rest) a w := by
  have hxl : xs.length = n := by have := hown.1; omega
  by_cases hr : n + m ≤ cap
  · refine wpList_append_fits w hg s x t hop base e i 1 h1 h2 h4 g n cap xs hs hown ad m c news hx hn hc h1c hr fun w' r1 r2 => ?_
    exact hK _ w' r1 (own_firstB r1 hxl) r2
  · refine wpList_append_grows w hg s x t hop e i z 1 bytes h1 h2 h3 h4 h5 h6 (by decide) (some ⟨g, 0, none⟩) n cap xs hs (fun h => by cases h) (by omega) (fun b hb j u hu => ?_) ad m c news hx hn hc h1c (by omega) b1 b2 fun v' w' r1 r2 => ?_
    · injection hb with hb
      subst hb
      have hj : j < n := by rw [← hxl]; exact (List.getElem?_eq_some_iff.1 hu).1
      have e2 : (⟨g, 0, none⟩ : Addr).add j = ⟨g, j, none⟩ := by unfold Addr.add; split <;> simp_all
      rw [e2, hown.cellAt j (by omega)]
      exact hu
    · refine hK v' w' (own_base2 r1 hbase) (hown.kept r2 (by simp [Value.ownBlock])) ?_
      exact ⟨r2.os, r2.tape, r2.output, r2.size, fun k hk _ => r2.block k hk (by simp)⟩
/-- the cells of a header in a box -/
theorem elv {w : World} {g : Nat} {t : TypeId} {a0 a1 a2 a3 a4 a5 a6 a7 a8 a9 a10 : Value} (h : Blk w g t #[a0, a1, a2, a3, a4, a5, a6, a7, a8, a9, a10]) :
    w.cell? ⟨g, 0, none⟩ = some a0 ∧ w.cell? ⟨g, 1, none⟩ = some a1 ∧ w.cell? ⟨g, 2, none⟩ = some a2 ∧ w.cell? ⟨g, 3, none⟩ = some a3 ∧ w.cell? ⟨g, 4, none⟩ = some a4 ∧ w.cell? ⟨g, 5, none⟩ = some a5 ∧ w.cell? ⟨g, 6, none⟩ = some a6 ∧ w.cell? ⟨g, 7, none⟩ = some a7 ∧ w.cell? ⟨g, 8, none⟩ = some a8 ∧ w.cell? ⟨g, 9, none⟩ = some a9 ∧ w.cell? ⟨g, 10, none⟩ = some a10 :=
  ⟨by simpa using h.cell 0, by simpa using h.cell 1, by simpa using h.cell 2, by simpa using h.cell 3, by simpa using h.cell 4, by simpa using h.cell 5, by simpa using h.cell 6, by simpa using h.cell 7, by simpa using h.cell 8, by simpa using h.cell 9, by simpa using h.cell 10⟩
def smp (m : Int) (sz : Nat) : Hd := ⟨m, ⟨1980, 1, 1, 0, 0, 0⟩, 7, 3, sz, [97]⟩
def smC (m : Int) (sz : Nat) : Array Value := #[.int .i64 m, .int .i64 1980, .int .i64 1, .int .i64 1, .int .i64 0, .int .i64 0, .int .i64 0, .int .u32 7, .int .u64 3, .int .u64 sz, .string ⟨#[97]⟩]
theorem smp_V (m : Int) (sz : Nat) : hdV (smp m sz) = .agg (smC m sz) := rfl
theorem smp_W (m : Int) (sz : Nat) (hm : (Lit.int .i64 m).wf = true) (hs : sz < two64) : HdW (smp m sz) := ⟨hm, ⟨show (Lit.int .i64 1980).wf = true by decide, show (Lit.int .i64 1).wf = true by decide, show (Lit.int .i64 1).wf = true by decide, show (Lit.int .i64 0).wf = true by decide, show (Lit.int .i64 0).wf = true by decide, show (Lit.int .i64 0).wf = true by decide⟩, by show 7 < 4294967296; omega, by show 3 < two64; unfold two64; omega, hs⟩
theorem nok_a : nokE [97] = 0 := nokE_ok (by decide +kernel)
theorem smp_chk (sz : Nat) : chkH (smp 8 sz) = 0 := chkH_of (.inr rfl) (show okP ⟨1980, 1, 1, 0, 0, 0⟩ by decide) nok_a
theorem smp_bad (sz : Nat) : chkH (smp 1 sz) = 43 := if_neg (show ¬ ((1 : Int) = 0 ∨ (1 : Int) = 8) by decide)
theorem results_cell_oneL {P : Program} {fn : Func} {p : Tmp} {ty : TypeId} (h : fn.results = #[.cell p ty]) (tmps : Array Value) (w : World) :
    (results fn tmps).run P w = ((asAddr (tmps.getD p undef)).run P w).andThen fun a w₁ => (loadVar ty a).run P w₁ := by
  simp only [results, h]
  simp [Sem.run_bind, Result.andThen]
theorem prV_nil : prV [] = (hd0, 0, 44) := by
  have e : lnV [] = (0, 44) := if_pos (.inl (by decide))
  unfold prV
  rw [e, if_pos (by decide)]
theorem sample_c (w : World) : Calls Tryd.prog 17 #[] w fun e w' => e = .returned (.agg (smC 8 5)) ∧ Below w.heap.size w w' := by
  have HK := Blk.new w 27 z11
  have t2 := st_hd HK rfl (smC 8 5) rfl (by simp [smC, Value.oneCell'])
  have t3 := ld_hd (HK.setRow (smC 8 5)) rfl
  have HB9 := Lib.hid (below_setRowS ((Below.refl w.heap.size w).alloc (Nat.le_refl _) (.cells z11 27)) (Nat.le_refl _) (smC 8 5))
  go_enter Tryd.func17, Tryd.ntmps17
  go_wp2_with (with_reducible refine wpList_store_var _ _ _ (by with_unfolding_all rfl) (by with_unfolding_all rfl) t2 ?_)
  refine bodyPost_ret (v := .agg (smC 8 5)) ?_ rfl ⟨rfl, HB9.out⟩
  rw [results_cell_oneL rfl]
  simp [asAddr, Result.andThen, t3]
/-- Write of a right header, its bytes counted -/
theorem Write_yes (h : Hd) (hw : HdW h) (hc : chkH h = 0) (N : Nat) (hN : 30 + h.nm.length + behN (grt h) = N) (w : World) (ht : TabM w) :
    Calls Tryd.prog 9 #[hdV h] w fun e w' => ∃ g c, e = .returned (.tuple #[.slice (some ⟨g, 0, none⟩) N c, .int .i64 0]) ∧ w'.ownsRow w.heap.size 5 1 (.slice (some ⟨g, 0, none⟩) N c) N (cs (hdX h)) ∧ Below w.heap.size w w' := by
  have hn := nok_le (chkH_ok hc).2.2
  refine (Write_c h hw (by omega) w ht).mono ?_
  rintro e w' ⟨A, M, c, rfl, hown, hb⟩
  rw [show wrX h = hdX h from if_pos hc] at hown
  have hl := own_len hown
  have hM : M = N := by rw [← hl, ← hN]; exact hdB_length h _ _
  subst hM
  obtain ⟨g, rfl, _, _⟩ := own_addr hown (by omega)
  rw [hc]
  exact ⟨g, c, rfl, hown, hb⟩
theorem Write_not (h : Hd) (hw : HdW h) (hn : h.nm.length ≤ 1000000) (k : Int) (hk : chkH h = k) (hk0 : k ≠ 0) (w : World) (ht : TabM w) :
    Calls Tryd.prog 9 #[hdV h] w fun e w' => ∃ A c, e = .returned (.tuple #[.slice A 0 c, .int .i64 k]) ∧ w'.ownsRow w.heap.size 5 1 (.slice A 0 c) 0 (cs []) ∧ Below w.heap.size w w' := by
  refine (Write_c h hw hn w ht).mono ?_
  rintro e w' ⟨A, M, c, rfl, hown, hb⟩
  rw [show wrX h = [] from if_neg (by rw [hk]; exact hk0)] at hown
  have hM : 0 = M := own_len hown
  subst hM
  rw [hk]
  exact ⟨A, c, rfl, hown, hb⟩
/-- what stands in the example: the bytes, both boxes -/
structure Al18 (w W : World) (base g c gh gb : Nat) (X : List F) : Prop where
  own : W.ownsRow base 5 1 (.slice (some ⟨g, 0, none⟩) 31 c) 31 (cs X)
  h : Blk W gh 27 #[.int .i64 8, .int .i64 1980, .int .i64 1, .int .i64 1, .int .i64 0, .int .i64 0, .int .i64 0, .int .u32 7, .int .u64 3, .int .u64 5, .string ⟨#[97]⟩]
  b : Blk W gb 27 #[.int .i64 8, .int .i64 1980, .int .i64 1, .int .i64 1, .int .i64 0, .int .i64 0, .int .i64 0, .int .u32 7, .int .u64 3, .int .u64 8589934592, .string ⟨#[97]⟩]
  bel : Below w.heap.size w W
theorem Al18.below {w W W' : World} {base g c gh gb : Nat} {X : List F} (a : Al18 w W base g c gh gb X) (hb : Below W.heap.size W W') : Al18 w W' base g c gh gb X := ⟨own_below a.own hb, a.h.below a.h.lt hb, a.b.below a.b.lt hb, a.bel.trans (hb.mono a.bel.size)⟩
theorem Al18.alloc {w W : World} {base g c gh gb : Nat} {X : List F} (a : Al18 w W base g c gh gb X) (o : Obj) : Al18 w (W.alloc o) base g c gh gb X := a.below ((Below.refl _ _).alloc (Nat.le_refl _) o)
set_option maxHeartbeats 4000000 in
theorem alive18_c (w : World) (ht : TabM w) : Calls Tryd.prog 8 #[] w fun e w' => e = .returned (.bool true) ∧ Below w.heap.size w w' := by
  obtain ⟨i0, hi, hz0, hz1, hz2⟩ := info_parts info_u8
  have hW1 := Write_yes (smp 8 5) (smp_W 8 5 (by decide) (by unfold two64; omega)) (smp_chk 5) 31 (by decide)
  have hW2 := Write_yes (smp 8 8589934592) (smp_W 8 8589934592 (by decide) (by unfold two64; omega)) (smp_chk _) 51 (by decide)
  have hW3 := Write_not (smp 1 5) (smp_W 1 5 (by decide) (by unfold two64; omega)) (by show 1 ≤ 1000000; omega) 43 (smp_bad 5) (by decide)
  have hp1 := prV_hdX (smp 8 5) [ofN 9] (smp_W 8 5 (by decide) (by unfold two64; omega)) (smp_chk 5)
  have hlen : (hdX (smp 8 5)).length = 31 := by unfold hdX; rw [hdB_length]; decide
  have hp2 := prV_cut (smp 8 5) (smp_W 8 5 (by decide) (by unfold two64; omega)) (smp_chk 5) 30 (by omega)
  have hb0 : gt (hdX (smp 8 5)) 0 = ofN 80 := by decide
  have hb1 : gt (hdX (smp 8 5)) 1 = ofN 75 := by decide
  have hS := SizeL_c (smp 8 8589934592) (by show 1 ≤ 1000000; omega)
  rw [show szH (smp 8 8589934592) = 51 by decide] at hS
  rw [hlen] at hp1
  rw [if_neg (by decide)] at hp2
  have hp2' : prV ((hdX (smp 8 5)).take 30) = (hd0, 0, 20) := by
    rcases prV_back ((hdX (smp 8 5)).take 30) with h | h
    · have := h.1; rw [hp2] at this; exact absurd this (by decide)
    · exact Prod.ext h.2.1 (Prod.ext h.2.2 hp2)
  rw [smp_V] at hW1 hW2 hW3 hS
  have hPP := fun A n c W h hn hT => Parse_c A n c (hdX (smp 8 5) ++ [ofN 9]) W h hn hT
  rw [hp1, smp_V] at hPP
  have hPN := fun W hT => Parse_c none 0 0 [] W (RowIn.nil_ W) (by omega) hT
  rw [prV_nil, hd0_z] at hPN
  have hPQ := fun A n c W h hn hT => Parse_c A n c ((hdX (smp 8 5)).take 30) W h hn hT
  rw [hp2', hd0_z] at hPQ
  have H1 := Lib.hid hW1
  have H2 := Lib.hid hW2
  have H3 := Lib.hid hW3
  have HPP := Lib.hid hPP
  have HPN := Lib.hid hPN
  have HPQ := Lib.hid hPQ
  have HS := Lib.hid hS
  have HT := Lib.hid ht
  have HB0 := Lib.hid hb0
  have HB1 := Lib.hid hb1
  have HLEN := Lib.hid hlen
  clear hW1 hW2 hW3 hPP hPN hPQ hS ht hb0 hb1 hlen hp1 hp2 hp2'
  generalize hdX (smp 8 5) = X at *
  generalize hdX (smp 8 8589934592) = Y at *
  unfold smC at H1 H2 H3 HPP HS
  dsimp only at HPP HPN HPQ
  unfold z11 at HPN HPQ
  go_enter Tryd.func8, Tryd.ntmps8
  go_wp2_with fail
  refine (sample_c _).mono ?_
  unfold smC
  rintro e W1 ⟨rfl, hb1⟩
  have HB1' := Lib.hid hb1
  clear hb1
  go_wp2_with fail
  refine (H1.out _ (HT.out.below HB1'.out)).mono ?_
  rintro e W2 ⟨g, c, rfl, hown, hb2⟩
  have HO2 := Lib.hid hown
  have HB2 := Lib.hid (HB1'.out.trans (hb2.mono HB1'.out.size))
  have hg2 := hown.lt g rfl
  have hs2 := hb2.size
  clear hown hb2
  have hba := (Below.refl W2.heap.size W2).alloc (Nat.le_refl _) (.cells #[.int .u8 9] 5)
  have HOa := Lib.hid (own_below HO2.out hba)
  go_wp2_with (refine wpList_append_keepsB _ (by rfl) (.tmp 24) (.tmp 25) 29 (by rfl) W1.heap.size 5 i0 (.int .u8 0) 1 Tryd.underlying29 hi hz0 hz1 hz2 rfl g 31 c (cs X) (by simp [go_sem]) HOa.out ⟨W2.heap.size, 0, none⟩ 1 1 [.int .u8 9] (by simp [go_sem]) rfl (one_cell W2 (.int .u8 9) 5) (by simp [Value.oneCell']) (by unfold maxLen; omega) (by omega) (by simp; omega) ?_; intro v3 W3 ho3 hok hg3; obtain ⟨A3, c3, rfl, hcc3⟩ := own_shape ho3)
  have ho4 : W3.ownsRow W1.heap.size 5 1 (.slice A3 32 c3) 32 (cs (X ++ [ofN 9])) := by rw [cs_append]; exact ho3
  have HB3 := Lib.hid ((HB2.out.alloc HB2.out.size (.cells #[.int .u8 9] 5)).grown hg3 (by have := HB2.out.size; simp; omega) (fun k hk => by cases hk; have := HB1'.out.size; omega))
  have HOK := Lib.hid hok
  refine (HPP.out A3 32 c3 W3 (own_in ho4) (by omega) (HT.out.below HB3.out)).mono ?_
  rintro e W4 ⟨rfl, hb4⟩
  have hcc := (own_cap HOK.out).1
  have HO4 := Lib.hid (own_below HOK.out hb4)
  have HB4 := Lib.hid (HB3.out.trans (hb4.mono HB3.out.size))
  clear ho3 ho4 hok hg3 hb4 HOK HB3 HOa hba HO2 HB2 hg2 hs2
  have hba := (Below.refl W4.heap.size W4).alloc (Nat.le_refl _) (.cells #[.int .i64 8, .int .i64 1980, .int .i64 1, .int .i64 1, .int .i64 0, .int .i64 0, .int .i64 0, .int .u32 7, .int .u64 3, .int .u64 5, .string ⟨#[97]⟩] 27)
  have HO5 := Lib.hid (own_below HO4.out hba)
  have HB5 := Lib.hid (HB4.out.trans (hba.mono HB4.out.size))
  have HK5 := Lib.hid (Blk.new W4 27 #[.int .i64 8, .int .i64 1980, .int .i64 1, .int .i64 1, .int .i64 0, .int .i64 0, .int .i64 0, .int .u32 7, .int .u64 3, .int .u64 5, .string ⟨#[97]⟩])
  clear hba HO4 HB4
  go_wp2_with fail
  refine (sample_c _).mono ?_
  unfold smC
  rintro e W6 ⟨rfl, hb6⟩
  have HK6 := Lib.hid (HK5.out.below HK5.out.lt hb6)
  have HO6 := Lib.hid (own_below HO5.out hb6)
  have HB6 := Lib.hid (HB5.out.trans (hb6.mono HB5.out.size))
  clear hb6 HK5 HO5 HB5
  have hba := (Below.refl W6.heap.size W6).alloc (Nat.le_refl _) (.cells #[.int .i64 8, .int .i64 1980, .int .i64 1, .int .i64 1, .int .i64 0, .int .i64 0, .int .i64 0, .int .u32 7, .int .u64 3, .int .u64 8589934592, .string ⟨#[97]⟩] 27)
  have AL0 : Hid (Al18 w (W6.alloc (.cells #[.int .i64 8, .int .i64 1980, .int .i64 1, .int .i64 1, .int .i64 0, .int .i64 0, .int .i64 0, .int .u32 7, .int .u64 3, .int .u64 8589934592, .string ⟨#[97]⟩] 27)) W1.heap.size g c W4.heap.size W6.heap.size X) := ⟨own_below HO6.out hba, HK6.out.below HK6.out.lt hba, Blk.new W6 _ _, HB6.out.trans (hba.mono HB6.out.size)⟩
  clear hba HO6 HB6 HK6
  go_wp2_with fail
  generalize W6.heap.size = gb at *
  generalize W4.heap.size = gh at *
  refine (H2.out _ (HT.out.below AL0.out.bel)).mono ?_
  rintro e W7 ⟨g7, c7, rfl, hown7, hb7⟩
  have AL7 := Lib.hid (AL0.out.below hb7)
  clear hown7 hb7 AL0
  go_wp2_with fail
  refine (sample_c _).mono ?_
  unfold smC
  rintro e W8 ⟨rfl, hb8⟩
  have AL8 := Lib.hid ((AL7.out.below hb8).alloc (.cells #[.int .i64 1, .int .i64 1980, .int .i64 1, .int .i64 1, .int .i64 0, .int .i64 0, .int .i64 0, .int .u32 7, .int .u64 3, .int .u64 5, .string ⟨#[97]⟩] 27))
  clear hb8 AL7
  go_wp2_with fail
  refine (H3.out _ (HT.out.below AL8.out.bel)).mono ?_
  rintro e W9 ⟨A9, c9, rfl, hown9, hb9⟩
  have AL9 := Lib.hid (AL8.out.below hb9)
  clear hown9 hb9 AL8
  go_wp2_with fail
  refine (HPN.out _ (HT.out.below AL9.out.bel)).mono ?_
  rintro e W10 ⟨rfl, hb10⟩
  have AL10 := Lib.hid ((AL9.out.below hb10).alloc (.cells #[.int .i64 0, .int .i64 0, .int .i64 0, .int .i64 0, .int .i64 0, .int .i64 0, .int .i64 0, .int .u32 0, .int .u64 0, .int .u64 0, .string ⟨#[]⟩] 27))
  clear hb10 AL9
  have i30 : (30 : Int) ≤ (c : Int) := by omega
  go_wp2_with fail
  refine (HPQ.out (some ⟨g, 0, none⟩) 30 c _ ⟨(Row.of_own AL10.out.own).take (by omega), by omega, (own_in AL10.out.own).max⟩ (by omega) (HT.out.below AL10.out.bel)).mono ?_
  rintro e W11 ⟨rfl, hb11⟩
  have AL11 := Lib.hid ((AL10.out.below hb11).alloc (.cells #[.int .i64 0, .int .i64 0, .int .i64 0, .int .i64 0, .int .i64 0, .int .i64 0, .int .i64 0, .int .u32 0, .int .u64 0, .int .u64 0, .string ⟨#[]⟩] 27))
  clear hb11 AL10
  obtain ⟨h0, h1, h2, h3, h4, h5, h6, h7, h8, h9, h10⟩ := elv AL11.out.h
  obtain ⟨d0, d1, d2, d3, d4, d5, d6, d7, d8, d9, d10⟩ := elv AL11.out.b
  have x0 := (AL11.out.own.cellAt 0 (by omega)).trans (cs_at (by have := HLEN.out; omega))
  have x1 := (AL11.out.own.cellAt 1 (by omega)).trans (cs_at (by have := HLEN.out; omega))
  rw [HB0.out] at x0
  rw [HB1.out] at x1
  rw [show ((ofN 80).n : Int) = 80 from rfl] at x0
  rw [show ((ofN 75).n : Int) = 75 from rfl] at x1
  go_wp2_with fail
  have lgh := AL11.out.h.lt
  have lgb := AL11.out.b.lt
  have lg := (AL11.out.own.lt g rfl).2
  have HBL := Lib.hid AL11.out.bel
  clear AL11
  generalize W11.alloc (.cells #[.int .i64 0, .int .i64 0, .int .i64 0, .int .i64 0, .int .i64 0, .int .i64 0, .int .i64 0, .int .u32 0, .int .u64 0, .int .u64 0, .string ⟨#[]⟩] 27) = W12 at *
  go_region_held3 (fun W' => W'.cell? ⟨gh, 0, none⟩ = some (.int .i64 8) ∧ W'.cell? ⟨gh, 1, none⟩ = some (.int .i64 1980) ∧ W'.cell? ⟨gh, 2, none⟩ = some (.int .i64 1) ∧ W'.cell? ⟨gh, 3, none⟩ = some (.int .i64 1) ∧ W'.cell? ⟨gh, 4, none⟩ = some (.int .i64 0) ∧ W'.cell? ⟨gh, 5, none⟩ = some (.int .i64 0) ∧ W'.cell? ⟨gh, 6, none⟩ = some (.int .i64 0) ∧ W'.cell? ⟨gh, 7, none⟩ = some (.int .u32 7) ∧ W'.cell? ⟨gh, 8, none⟩ = some (.int .u64 3) ∧ W'.cell? ⟨gh, 9, none⟩ = some (.int .u64 5) ∧ W'.cell? ⟨gh, 10, none⟩ = some (.string ⟨#[97]⟩) ∧ W'.cell? ⟨gb, 0, none⟩ = some (.int .i64 8) ∧ W'.cell? ⟨gb, 1, none⟩ = some (.int .i64 1980) ∧ W'.cell? ⟨gb, 2, none⟩ = some (.int .i64 1) ∧ W'.cell? ⟨gb, 3, none⟩ = some (.int .i64 1) ∧ W'.cell? ⟨gb, 4, none⟩ = some (.int .i64 0) ∧ W'.cell? ⟨gb, 5, none⟩ = some (.int .i64 0) ∧ W'.cell? ⟨gb, 6, none⟩ = some (.int .i64 0) ∧ W'.cell? ⟨gb, 7, none⟩ = some (.int .u32 7) ∧ W'.cell? ⟨gb, 8, none⟩ = some (.int .u64 3) ∧ W'.cell? ⟨gb, 9, none⟩ = some (.int .u64 8589934592) ∧ W'.cell? ⟨gb, 10, none⟩ = some (.string ⟨#[97]⟩) ∧ W'.cell? ⟨g, 0, none⟩ = some (.int .u8 80) ∧ W'.cell? ⟨g, 1, none⟩ = some (.int .u8 75)) (first
    | go_keep
    | (go_split_ands
       exact ⟨(hb1.cell (p := ⟨gh, 0, none⟩) (by first | exact lgh | exact Nat.lt_of_lt_of_le lgh hb1.size)).trans (by assumption), (hb1.cell (p := ⟨gh, 1, none⟩) (by first | exact lgh | exact Nat.lt_of_lt_of_le lgh hb1.size)).trans (by assumption), (hb1.cell (p := ⟨gh, 2, none⟩) (by first | exact lgh | exact Nat.lt_of_lt_of_le lgh hb1.size)).trans (by assumption), (hb1.cell (p := ⟨gh, 3, none⟩) (by first | exact lgh | exact Nat.lt_of_lt_of_le lgh hb1.size)).trans (by assumption), (hb1.cell (p := ⟨gh, 4, none⟩) (by first | exact lgh | exact Nat.lt_of_lt_of_le lgh hb1.size)).trans (by assumption), (hb1.cell (p := ⟨gh, 5, none⟩) (by first | exact lgh | exact Nat.lt_of_lt_of_le lgh hb1.size)).trans (by assumption), (hb1.cell (p := ⟨gh, 6, none⟩) (by first | exact lgh | exact Nat.lt_of_lt_of_le lgh hb1.size)).trans (by assumption), (hb1.cell (p := ⟨gh, 7, none⟩) (by first | exact lgh | exact Nat.lt_of_lt_of_le lgh hb1.size)).trans (by assumption), (hb1.cell (p := ⟨gh, 8, none⟩) (by first | exact lgh | exact Nat.lt_of_lt_of_le lgh hb1.size)).trans (by assumption), (hb1.cell (p := ⟨gh, 9, none⟩) (by first | exact lgh | exact Nat.lt_of_lt_of_le lgh hb1.size)).trans (by assumption), (hb1.cell (p := ⟨gh, 10, none⟩) (by first | exact lgh | exact Nat.lt_of_lt_of_le lgh hb1.size)).trans (by assumption), (hb1.cell (p := ⟨gb, 0, none⟩) (by first | exact lgb | exact Nat.lt_of_lt_of_le lgb hb1.size)).trans (by assumption), (hb1.cell (p := ⟨gb, 1, none⟩) (by first | exact lgb | exact Nat.lt_of_lt_of_le lgb hb1.size)).trans (by assumption), (hb1.cell (p := ⟨gb, 2, none⟩) (by first | exact lgb | exact Nat.lt_of_lt_of_le lgb hb1.size)).trans (by assumption), (hb1.cell (p := ⟨gb, 3, none⟩) (by first | exact lgb | exact Nat.lt_of_lt_of_le lgb hb1.size)).trans (by assumption), (hb1.cell (p := ⟨gb, 4, none⟩) (by first | exact lgb | exact Nat.lt_of_lt_of_le lgb hb1.size)).trans (by assumption), (hb1.cell (p := ⟨gb, 5, none⟩) (by first | exact lgb | exact Nat.lt_of_lt_of_le lgb hb1.size)).trans (by assumption), (hb1.cell (p := ⟨gb, 6, none⟩) (by first | exact lgb | exact Nat.lt_of_lt_of_le lgb hb1.size)).trans (by assumption), (hb1.cell (p := ⟨gb, 7, none⟩) (by first | exact lgb | exact Nat.lt_of_lt_of_le lgb hb1.size)).trans (by assumption), (hb1.cell (p := ⟨gb, 8, none⟩) (by first | exact lgb | exact Nat.lt_of_lt_of_le lgb hb1.size)).trans (by assumption), (hb1.cell (p := ⟨gb, 9, none⟩) (by first | exact lgb | exact Nat.lt_of_lt_of_le lgb hb1.size)).trans (by assumption), (hb1.cell (p := ⟨gb, 10, none⟩) (by first | exact lgb | exact Nat.lt_of_lt_of_le lgb hb1.size)).trans (by assumption), (hb1.cell (p := ⟨g, 0, none⟩) (by first | exact lg | exact Nat.lt_of_lt_of_le lg hb1.size)).trans (by assumption), (hb1.cell (p := ⟨g, 1, none⟩) (by first | exact lg | exact Nat.lt_of_lt_of_le lg hb1.size)).trans (by assumption)⟩)
    | (go_split_ands
       exact ⟨(hb2.cell (p := ⟨gh, 0, none⟩) (by first | exact lgh | exact Nat.lt_of_lt_of_le lgh hb1.size)).trans (by assumption), (hb2.cell (p := ⟨gh, 1, none⟩) (by first | exact lgh | exact Nat.lt_of_lt_of_le lgh hb1.size)).trans (by assumption), (hb2.cell (p := ⟨gh, 2, none⟩) (by first | exact lgh | exact Nat.lt_of_lt_of_le lgh hb1.size)).trans (by assumption), (hb2.cell (p := ⟨gh, 3, none⟩) (by first | exact lgh | exact Nat.lt_of_lt_of_le lgh hb1.size)).trans (by assumption), (hb2.cell (p := ⟨gh, 4, none⟩) (by first | exact lgh | exact Nat.lt_of_lt_of_le lgh hb1.size)).trans (by assumption), (hb2.cell (p := ⟨gh, 5, none⟩) (by first | exact lgh | exact Nat.lt_of_lt_of_le lgh hb1.size)).trans (by assumption), (hb2.cell (p := ⟨gh, 6, none⟩) (by first | exact lgh | exact Nat.lt_of_lt_of_le lgh hb1.size)).trans (by assumption), (hb2.cell (p := ⟨gh, 7, none⟩) (by first | exact lgh | exact Nat.lt_of_lt_of_le lgh hb1.size)).trans (by assumption), (hb2.cell (p := ⟨gh, 8, none⟩) (by first | exact lgh | exact Nat.lt_of_lt_of_le lgh hb1.size)).trans (by assumption), (hb2.cell (p := ⟨gh, 9, none⟩) (by first | exact lgh | exact Nat.lt_of_lt_of_le lgh hb1.size)).trans (by assumption), (hb2.cell (p := ⟨gh, 10, none⟩) (by first | exact lgh | exact Nat.lt_of_lt_of_le lgh hb1.size)).trans (by assumption), (hb2.cell (p := ⟨gb, 0, none⟩) (by first | exact lgb | exact Nat.lt_of_lt_of_le lgb hb1.size)).trans (by assumption), (hb2.cell (p := ⟨gb, 1, none⟩) (by first | exact lgb | exact Nat.lt_of_lt_of_le lgb hb1.size)).trans (by assumption), (hb2.cell (p := ⟨gb, 2, none⟩) (by first | exact lgb | exact Nat.lt_of_lt_of_le lgb hb1.size)).trans (by assumption), (hb2.cell (p := ⟨gb, 3, none⟩) (by first | exact lgb | exact Nat.lt_of_lt_of_le lgb hb1.size)).trans (by assumption), (hb2.cell (p := ⟨gb, 4, none⟩) (by first | exact lgb | exact Nat.lt_of_lt_of_le lgb hb1.size)).trans (by assumption), (hb2.cell (p := ⟨gb, 5, none⟩) (by first | exact lgb | exact Nat.lt_of_lt_of_le lgb hb1.size)).trans (by assumption), (hb2.cell (p := ⟨gb, 6, none⟩) (by first | exact lgb | exact Nat.lt_of_lt_of_le lgb hb1.size)).trans (by assumption), (hb2.cell (p := ⟨gb, 7, none⟩) (by first | exact lgb | exact Nat.lt_of_lt_of_le lgb hb1.size)).trans (by assumption), (hb2.cell (p := ⟨gb, 8, none⟩) (by first | exact lgb | exact Nat.lt_of_lt_of_le lgb hb1.size)).trans (by assumption), (hb2.cell (p := ⟨gb, 9, none⟩) (by first | exact lgb | exact Nat.lt_of_lt_of_le lgb hb1.size)).trans (by assumption), (hb2.cell (p := ⟨gb, 10, none⟩) (by first | exact lgb | exact Nat.lt_of_lt_of_le lgb hb1.size)).trans (by assumption), (hb2.cell (p := ⟨g, 0, none⟩) (by first | exact lg | exact Nat.lt_of_lt_of_le lg hb1.size)).trans (by assumption), (hb2.cell (p := ⟨g, 1, none⟩) (by first | exact lg | exact Nat.lt_of_lt_of_le lg hb1.size)).trans (by assumption)⟩))
    ((first
      | (go_at_call 17
         refine (sample_c _).mono ?_
         unfold smC
         rintro e w2 ⟨rfl, hb1⟩)
      | (go_at_call 13
         refine (HS.out _).mono ?_
         rintro e w3 ⟨rfl, hb2⟩)))
  go_wp2
  go_ret
  have hbD := below_drewL HBL.out
  have hbE := hbD.trans (hb1.mono hbD.size)
  exact ⟨rfl, hbE.trans (hb2.mono hbE.size)⟩
end Go.Proofs.YtcclhcbjolelcaaDoor
