/-
  LAW 19: the law's own example; as; records in boxes (WRITTEN by wip/gen19q.py). No conditions (but that the table of months lies as the program's text lays it).
-/
import Derived.Test.YtacllgglpjdobaaDoorCno
namespace Go.Proofs.YtacllgglpjdobaaDoor
open Go.RowKit
set_option maxRecDepth 100000
set_option linter.unusedVariables false

theorem own_firstB {w : World} {base g c n m : Nat} {e : TypeId} {xs ys : List Value} (h : w.ownsRow base e 1 (.slice (some ⟨g, 0, none⟩) (n + m) c) (n + m) (xs ++ ys)) (hx : xs.length = n) : w.ownsRow base e 1 (.slice (some ⟨g, 0, none⟩) n c) n xs := by
  refine ⟨by omega, ?_⟩
  rcases h.2 with ⟨hv, _⟩ | ⟨g', cap', cur, hv, hb, hg, h1, h2, h3, h4⟩
  · cases hv
  · injection hv with hv1 _ hv3
    injection hv1 with hv1
    injection hv1 with hv1
    subst hv1 hv3
    refine .inr ⟨g, c, cur, rfl, hb, hg, by omega, h2, h3, ?_⟩
    have h5 := congrArg (List.take n) h4
    rw [List.take_take, List.take_append_of_le_length (show n ≤ xs.length by omega), List.take_of_length_le (show xs.length ≤ n by omega)] at h5
    rw [Nat.mul_one, ← h5]
    congr 1
    omega
theorem wpList_append_keepsB {P : Program} (w : World) {ops : Array Oper} {rest : List Oper} {o : Oper} {a : Act} {Q : Exit → Act → World → Prop}
    (hg : o.guard = none) (s x : Operand) (t : TypeId) (hop : o.op = Op.call { callee := Callee.builtin Builtin.append, args := #[s, x], argTypes := #[t, t] })
    (base : Nat) (e : TypeId) (i : TypeInfo) (z : Value) (bytes : Nat) (h1 : P.underlying t = some (.slice e)) (h2 : P.info? e = some i) (h3 : i.zero = some z) (h4 : i.size = 1) (h5 : i.bytes = bytes) (h6 : z.cells.size = 1)
    (g n cap : Nat) (xs : List Value) (hs : a.eval s = .slice (some ⟨g, 0, none⟩) n cap) (hown : w.ownsRow base e 1 (.slice (some ⟨g, 0, none⟩) n cap) n xs) (ad : Addr) (m c : Nat) (news : List Value) (hx : a.eval x = .slice (some ad) m c) (hn : news.length = m * 1)
    (hc : ∀ j u, news[j]? = some u → w.cell? (ad.add j) = some u) (h1c : ∀ u ∈ news, u.oneCell' = true) (b1 : n + m ≤ maxLen) (b2 : (n + m) * bytes ≤ 140737488355328) (hbase : base ≤ w.heap.size)
    (hK : ∀ v' w', w'.ownsRow base e 1 v' (n + m) (xs ++ news) → w'.ownsRow base e 1 (.slice (some ⟨g, 0, none⟩) n cap) n xs → w.grownBy w' (some g) → wpList P ops Q rest (a.put o.dst v') w') :
    wpList P ops Q (o :: rest) a w := by
  have hxl : xs.length = n := by have := hown.1; omega
  by_cases hr : n + m ≤ cap
  · refine wpList_append_fits w hg s x t hop base e i 1 h1 h2 h4 g n cap xs hs hown ad m c news hx hn hc h1c hr fun w' r1 r2 => ?_
    exact hK _ w' r1 (own_firstB r1 hxl) r2
  · refine wpList_append_grows w hg s x t hop e i z 1 bytes h1 h2 h3 h4 h5 h6 (by decide) (some ⟨g, 0, none⟩) n cap xs hs (fun h => by cases h) (by omega) (fun b hb j u hu => ?_) ad m c news hx hn hc h1c (by omega) b1 b2 fun v' w' r1 r2 => ?_
    · injection hb with hb
      subst hb
      have hj : j < n := by rw [← hxl]; exact (List.getElem?_eq_some_iff.1 hu).1
      have e2 : (⟨g, 0, none⟩ : Addr).add j = ⟨g, j, none⟩ := by unfold Addr.add; split <;> simp_all
      rw [e2, hown.cellAt j (by omega)]
      exact hu
    · refine hK v' w' (own_base2 r1 hbase) (hown.kept r2 (by simp [Value.ownBlock])) ?_
      exact ⟨r2.os, r2.tape, r2.output, r2.size, fun k hk _ => r2.block k hk (by simp)⟩
/-- the cells of a record in a box -/
theorem elC {w : World} {g : Nat} {t : TypeId} {a0 a1 a2 a3 a4 a5 a6 a7 a8 a9 a10 a11 a12 : Value} (h : Blk w g t #[a0, a1, a2, a3, a4, a5, a6, a7, a8, a9, a10, a11, a12]) :
    w.cell? ⟨g, 0, none⟩ = some a0 ∧ w.cell? ⟨g, 1, none⟩ = some a1 ∧ w.cell? ⟨g, 2, none⟩ = some a2 ∧ w.cell? ⟨g, 3, none⟩ = some a3 ∧ w.cell? ⟨g, 4, none⟩ = some a4 ∧ w.cell? ⟨g, 5, none⟩ = some a5 ∧ w.cell? ⟨g, 6, none⟩ = some a6 ∧ w.cell? ⟨g, 7, none⟩ = some a7 ∧ w.cell? ⟨g, 8, none⟩ = some a8 ∧ w.cell? ⟨g, 9, none⟩ = some a9 ∧ w.cell? ⟨g, 10, none⟩ = some a10 ∧ w.cell? ⟨g, 11, none⟩ = some a11 ∧ w.cell? ⟨g, 12, none⟩ = some a12 :=
  ⟨by simpa using h.cell 0, by simpa using h.cell 1, by simpa using h.cell 2, by simpa using h.cell 3, by simpa using h.cell 4, by simpa using h.cell 5, by simpa using h.cell 6, by simpa using h.cell 7, by simpa using h.cell 8, by simpa using h.cell 9, by simpa using h.cell 10, by simpa using h.cell 11, by simpa using h.cell 12⟩
def smR (d o : Nat) : Rc := ⟨⟨8, ⟨1980, 1, 1, 0, 0, 0⟩, 7, 3, 5, [97]⟩, d, o⟩
def smA (d o : Nat) : Array Value := #[.int .i64 8, .int .i64 1980, .int .i64 1, .int .i64 1, .int .i64 0, .int .i64 0, .int .i64 0, .int .u32 7, .int .u64 3, .int .u64 5, .string ⟨#[97]⟩, .int .u32 d, .int .u64 o]
theorem smR_V (d o : Nat) : rcV (smR d o) = .agg (smA d o) := rfl
theorem smR_W (d o : Nat) (hd : d < 4294967296) (ho : o < two64) : RcW (smR d o) := ⟨⟨show (Lit.int .i64 8).wf = true by decide, ⟨show (Lit.int .i64 1980).wf = true by decide, show (Lit.int .i64 1).wf = true by decide, show (Lit.int .i64 1).wf = true by decide, show (Lit.int .i64 0).wf = true by decide, show (Lit.int .i64 0).wf = true by decide, show (Lit.int .i64 0).wf = true by decide⟩, by show 7 < 4294967296; omega, by show 3 < two64; unfold two64; omega, by show 5 < two64; unfold two64; omega⟩, hd, ho⟩
theorem nok_a : nokE [97] = 0 := nokE_ok (by decide +kernel)
theorem smR_chk (d o : Nat) : chkH (smR d o).h = 0 := chkH_of (.inr rfl) (show okP ⟨1980, 1, 1, 0, 0, 0⟩ by decide) nok_a
theorem results_cell_oneL {P : Program} {fn : Func} {p : Tmp} {ty : TypeId} (h : fn.results = #[.cell p ty]) (tmps : Array Value) (w : World) :
    (results fn tmps).run P w = ((asAddr (tmps.getD p undef)).run P w).andThen fun a w₁ => (loadVar ty a).run P w₁ := by
  simp only [results, h]
  simp [Sem.run_bind, Result.andThen]
theorem prC_nil : prC [] = (rc0, 0, 44) := by
  have e : lnW [] = (0, 44) := if_pos (.inl (by decide))
  unfold prC
  rw [e, if_pos (by decide)]
theorem sample_c (w : World) : Calls Tryd.prog 19 #[] w fun e w' => e = .returned (.agg (smA 2 9)) ∧ Below w.heap.size w w' := by
  have HK := Blk.new w 29 z13
  have t2 := st_rc HK rfl (smA 2 9) rfl (by simp [smA, Value.oneCell'])
  have t3 := ld_rc (HK.setRow (smA 2 9)) rfl
  have HB9 := Lib.hid (below_setRowS ((Below.refl w.heap.size w).alloc (Nat.le_refl _) (.cells z13 29)) (Nat.le_refl _) (smA 2 9))
  go_enter Tryd.func19, Tryd.ntmps19
  go_wp2_with (with_reducible refine wpList_store_var _ _ _ (by with_unfolding_all rfl) (by with_unfolding_all rfl) t2 ?_)
  refine bodyPost_ret (v := .agg (smA 2 9)) ?_ rfl ⟨rfl, HB9.out⟩
  rw [results_cell_oneL rfl]
  simp [asAddr, Result.andThen, t3]
theorem as_c (c : Rc) (w : World) : Calls Tryd.prog 11 #[rcV c] w fun e w' => e = .returned (rcV c) ∧ Below w.heap.size w w' := by
  unfold rcV
  have hb0 := (Below.refl w.heap.size w).alloc (Nat.le_refl _) (.cells (rcC c) 29)
  have HK := Blk.new (w.alloc (.cells (rcC c) 29)) 39 z13
  simp only [World.size_alloc] at HK
  have t2 := st_rcR HK rfl (rcC c) rfl (by simp [rcC, Value.oneCell'])
  have t3 := ld_rcR (HK.setRow (rcC c)) rfl
  have HB9 := Lib.hid (below_setRowS (hb0.alloc (by simp) (.cells z13 39)) (show w.heap.size ≤ w.heap.size + 1 by omega) (rcC c))
  clear hb0 HK
  obtain ⟨⟨m, ⟨y, mo, d, hh, mi, s⟩, sum, p, z, nm⟩, k, o⟩ := c
  unfold rcC at *
  unfold z13 at *
  dsimp only at *
  go_enter Tryd.func11, Tryd.ntmps11
  go_wp2_with (with_reducible refine wpList_store_var _ _ _ (by with_unfolding_all rfl) (by with_unfolding_all rfl) t2 ?_)
  refine bodyPost_ret (v := .agg #[.int .i64 m, .int .i64 y, .int .i64 mo, .int .i64 d, .int .i64 hh, .int .i64 mi, .int .i64 s, .int .u32 sum, .int .u64 p, .int .u64 z, .string (S nm), .int .u32 k, .int .u64 o]) ?_ rfl ⟨rfl, HB9.out⟩
  rw [results_cell_oneL rfl]
  simp [asAddr, Result.andThen, t3]
/-- Write of a right record, its bytes counted -/
theorem WriteC_yes (c : Rc) (hW : RcW c) (hc : chkH c.h = 0) (N : Nat) (hN : 46 + c.h.nm.length + bh c = N) (w : World) (ht : TabM w) :
    Calls Tryd.prog 9 #[rcV c] w fun e w' => ∃ g ca, e = .returned (.tuple #[.slice (some ⟨g, 0, none⟩) N ca, .int .i64 0]) ∧ w'.ownsRow w.heap.size 5 1 (.slice (some ⟨g, 0, none⟩) N ca) N (cs (crX c)) ∧ Below w.heap.size w w' := by
  have hn := nok_le (chkH_ok hc).2.2
  refine (WriteC_c c hW (by omega) w ht).mono ?_
  rintro e w' ⟨A, M, ca, rfl, hown, hb⟩
  rw [show wrC c = crX c from if_pos hc] at hown
  have hl := own_len hown
  have hM : M = N := by rw [← hl, ← hN]; exact cdB_length c _ _ _
  subst hM
  obtain ⟨g, rfl, _, _⟩ := own_addr hown (by omega)
  rw [hc]
  exact ⟨g, ca, rfl, hown, hb⟩
theorem WriteC_not (c : Rc) (hW : RcW c) (hn : c.h.nm.length ≤ 1000000) (k : Int) (hk : chkH c.h = k) (hk0 : k ≠ 0) (w : World) (ht : TabM w) :
    Calls Tryd.prog 9 #[rcV c] w fun e w' => ∃ A ca, e = .returned (.tuple #[.slice A 0 ca, .int .i64 k]) ∧ w'.ownsRow w.heap.size 5 1 (.slice A 0 ca) 0 (cs []) ∧ Below w.heap.size w w' := by
  refine (WriteC_c c hW hn w ht).mono ?_
  rintro e w' ⟨A, M, ca, rfl, hown, hb⟩
  rw [show wrC c = [] from if_neg (by rw [hk]; exact hk0)] at hown
  have hM : 0 = M := own_len hown
  subst hM
  rw [hk]
  exact ⟨A, ca, rfl, hown, hb⟩
/-- what stands in the example: the bytes, both boxes -/
structure Al19 (w W : World) (base g c gh gb : Nat) (X : List F) : Prop where
  own : W.ownsRow base 5 1 (.slice (some ⟨g, 0, none⟩) 47 c) 47 (cs X)
  h : Blk W gh 29 #[.int .i64 8, .int .i64 1980, .int .i64 1, .int .i64 1, .int .i64 0, .int .i64 0, .int .i64 0, .int .u32 7, .int .u64 3, .int .u64 5, .string ⟨#[97]⟩, .int .u32 2, .int .u64 9]
  b : Blk W gb 29 #[.int .i64 8, .int .i64 1980, .int .i64 1, .int .i64 1, .int .i64 0, .int .i64 0, .int .i64 0, .int .u32 7, .int .u64 3, .int .u64 5, .string ⟨#[97]⟩, .int .u32 70000, .int .u64 8589934592]
  bel : Below w.heap.size w W
theorem Al19.below {w W W' : World} {base g c gh gb : Nat} {X : List F} (a : Al19 w W base g c gh gb X) (hb : Below W.heap.size W W') : Al19 w W' base g c gh gb X := ⟨own_below a.own hb, a.h.below a.h.lt hb, a.b.below a.b.lt hb, a.bel.trans (hb.mono a.bel.size)⟩
theorem Al19.alloc {w W : World} {base g c gh gb : Nat} {X : List F} (a : Al19 w W base g c gh gb X) (o : Obj) : Al19 w (W.alloc o) base g c gh gb X := a.below ((Below.refl _ _).alloc (Nat.le_refl _) o)
set_option maxHeartbeats 8000000 in
theorem alive19_c (w : World) (ht : TabM w) : Calls Tryd.prog 8 #[] w fun e w' => e = .returned (.bool true) ∧ Below w.heap.size w w' := by
  obtain ⟨i0, hi, hz0, hz1, hz2⟩ := info_parts info_u8
  have hWs := smR_W 2 9 (by omega) (by unfold two64; omega)
  have hWb := smR_W 70000 8589934592 (by omega) (by unfold two64; omega)
  have hbs : bh (smR 2 9) = 0 := by decide +kernel
  have hbb : bh (smR 70000 8589934592) = 16 := by decide +kernel
  have hW1 := WriteC_yes (smR 2 9) hWs (smR_chk _ _) 47 (by rw [hbs]; rfl)
  have hW2 := WriteC_yes (smR 70000 8589934592) hWb (smR_chk _ _) 63 (by rw [hbb]; rfl)
  have hp1 := prC_crX (smR 2 9) [ofN 9] hWs (smR_chk _ _)
  have hpb := prC_crX (smR 70000 8589934592) [] hWb (smR_chk _ _)
  rw [List.append_nil] at hpb
  have hlen : (crX (smR 2 9)).length = 47 := by unfold crX; rw [cdB_length, hbs]; rfl
  have hlenb : (crX (smR 70000 8589934592)).length = 63 := by unfold crX; rw [cdB_length, hbb]; rfl
  have hp2 := prC_cut (smR 2 9) hWs (smR_chk _ _) 46 (by omega)
  have hS := fun w => SizeC_c hWb (by show 1 ≤ 1000000; omega) w
  have hsz : szC (smR 70000 8589934592) = 63 := by unfold szC; rw [hbb]; decide +kernel
  rw [hsz] at hS
  rw [hlen] at hp1
  rw [hlenb] at hpb
  rw [if_neg (by decide)] at hp2
  have hp2' : prC ((crX (smR 2 9)).take 46) = (rc0, 0, 20) := by
    rcases prC_back ((crX (smR 2 9)).take 46) with h | h
    · have := h.1; rw [hp2] at this; exact absurd this (by decide)
    · exact Prod.ext h.2.1 (Prod.ext h.2.2 hp2)
  rw [smR_V] at hW1 hW2 hS
  have hPP := fun A n c W h hn hT => ParseC_c A n c (crX (smR 2 9) ++ [ofN 9]) W h hn hT
  rw [hp1, smR_V] at hPP
  have hPB := fun A n c W h hn hT => ParseC_c A n c (crX (smR 70000 8589934592)) W h hn hT
  rw [hpb, smR_V] at hPB
  have hPN := fun W hT => ParseC_c none 0 0 [] W (RowIn.nil_ W) (by omega) hT
  rw [prC_nil, rc0_z] at hPN
  have hPQ := fun A n c W h hn hT => ParseC_c A n c ((crX (smR 2 9)).take 46) W h hn hT
  rw [hp2', rc0_z] at hPQ
  have H1 := Lib.hid hW1
  have H2 := Lib.hid hW2
  have HPP := Lib.hid hPP
  have HPB := Lib.hid hPB
  have HPN := Lib.hid hPN
  have HPQ := Lib.hid hPQ
  have HS := Lib.hid hS
  have HT := Lib.hid ht
  have HLEN := Lib.hid hlen
  have HLENB := Lib.hid hlenb
  clear hW1 hW2 hPP hPB hPN hPQ hS ht hlen hlenb hp1 hp2 hp2' hpb hsz hbs hbb hWs hWb
  generalize crX (smR 2 9) = X at *
  generalize crX (smR 70000 8589934592) = Y at *
  unfold smA at H1 H2 HPP HPB HS
  dsimp only at HPP HPB HPN HPQ
  unfold z13 at HPN HPQ
  go_enter Tryd.func8, Tryd.ntmps8
  go_wp2_with fail
  refine (sample_c _).mono ?_
  unfold smA
  rintro e W1 ⟨rfl, hb1⟩
  have HB1' := Lib.hid hb1
  clear hb1
  go_wp2_with fail
  refine (H1.out _ (HT.out.below HB1'.out)).mono ?_
  rintro e W2 ⟨g, c, rfl, hown, hb2⟩
  have HO2 := Lib.hid hown
  have HB2 := Lib.hid (HB1'.out.trans (hb2.mono HB1'.out.size))
  have hg2 := hown.lt g rfl
  have hs2 := hb2.size
  clear hown hb2
  have hba := (Below.refl W2.heap.size W2).alloc (Nat.le_refl _) (.cells #[.int .u8 9] 5)
  have HOa := Lib.hid (own_below HO2.out hba)
  go_wp2_with (refine wpList_append_keepsB _ (by rfl) (.tmp 24) (.tmp 25) 31 (by rfl) W1.heap.size 5 i0 (.int .u8 0) 1 Tryd.underlying31 hi hz0 hz1 hz2 rfl g 47 c (cs X) (by simp [go_sem]) HOa.out ⟨W2.heap.size, 0, none⟩ 1 1 [.int .u8 9] (by simp [go_sem]) rfl (one_cell W2 (.int .u8 9) 5) (by simp [Value.oneCell']) (by unfold maxLen; omega) (by omega) (by simp; omega) ?_; intro v3 W3 ho3 hok hg3; obtain ⟨A3, c3, rfl, hcc3⟩ := own_shape ho3)
  have ho4 : W3.ownsRow W1.heap.size 5 1 (.slice A3 48 c3) 48 (cs (X ++ [ofN 9])) := by rw [cs_append]; exact ho3
  have HB3 := Lib.hid ((HB2.out.alloc HB2.out.size (.cells #[.int .u8 9] 5)).grown hg3 (by have := HB2.out.size; simp; omega) (fun k hk => by cases hk; have := HB1'.out.size; omega))
  have HOK := Lib.hid hok
  refine (HPP.out A3 48 c3 W3 (own_in ho4) (by omega) (HT.out.below HB3.out)).mono ?_
  rintro e W4 ⟨rfl, hb4⟩
  have hcc := (own_cap HOK.out).1
  have HO4 := Lib.hid (own_below HOK.out hb4)
  have HB4 := Lib.hid (HB3.out.trans (hb4.mono HB3.out.size))
  clear ho3 ho4 hok hg3 hb4 HOK HB3 HOa hba HO2 HB2 hg2 hs2
  have hba := (Below.refl W4.heap.size W4).alloc (Nat.le_refl _) (.cells #[.int .i64 8, .int .i64 1980, .int .i64 1, .int .i64 1, .int .i64 0, .int .i64 0, .int .i64 0, .int .u32 7, .int .u64 3, .int .u64 5, .string ⟨#[97]⟩, .int .u32 2, .int .u64 9] 29)
  have HO5 := Lib.hid (own_below HO4.out hba)
  have HB5 := Lib.hid (HB4.out.trans (hba.mono HB4.out.size))
  have HK5 := Lib.hid (Blk.new W4 29 #[.int .i64 8, .int .i64 1980, .int .i64 1, .int .i64 1, .int .i64 0, .int .i64 0, .int .i64 0, .int .u32 7, .int .u64 3, .int .u64 5, .string ⟨#[97]⟩, .int .u32 2, .int .u64 9])
  clear hba HO4 HB4
  go_wp2_with fail
  refine (sample_c _).mono ?_
  unfold smA
  rintro e W6 ⟨rfl, hb6⟩
  have HK6 := Lib.hid (HK5.out.below HK5.out.lt hb6)
  have HO6 := Lib.hid (own_below HO5.out hb6)
  have HB6 := Lib.hid (HB5.out.trans (hb6.mono HB5.out.size))
  clear hb6 HK5 HO5 HB5
  have hba := (Below.refl W6.heap.size W6).alloc (Nat.le_refl _) (.cells #[.int .i64 8, .int .i64 1980, .int .i64 1, .int .i64 1, .int .i64 0, .int .i64 0, .int .i64 0, .int .u32 7, .int .u64 3, .int .u64 5, .string ⟨#[97]⟩, .int .u32 70000, .int .u64 8589934592] 29)
  have AL0 : Hid (Al19 w (W6.alloc (.cells #[.int .i64 8, .int .i64 1980, .int .i64 1, .int .i64 1, .int .i64 0, .int .i64 0, .int .i64 0, .int .u32 7, .int .u64 3, .int .u64 5, .string ⟨#[97]⟩, .int .u32 70000, .int .u64 8589934592] 29)) W1.heap.size g c W4.heap.size W6.heap.size X) := ⟨own_below HO6.out hba, HK6.out.below HK6.out.lt hba, Blk.new W6 _ _, HB6.out.trans (hba.mono HB6.out.size)⟩
  clear hba HO6 HB6 HK6
  go_wp2_with fail
  generalize W6.heap.size = gb at *
  generalize W4.heap.size = gh at *
  refine (H2.out _ (HT.out.below AL0.out.bel)).mono ?_
  rintro e W7 ⟨g7, c7, rfl, hown7, hb7⟩
  have AL7 := Lib.hid (AL0.out.below hb7)
  have HR7 := Lib.hid (own_in hown7)
  clear hown7 hb7 AL0
  go_wp2_with fail
  refine (HPN.out _ (HT.out.below AL7.out.bel)).mono ?_
  rintro e W8 ⟨rfl, hb8⟩
  have hbz := hb8.trans (((Below.refl W8.heap.size W8).alloc (Nat.le_refl _) (.cells #[.int .i64 0, .int .i64 0, .int .i64 0, .int .i64 0, .int .i64 0, .int .i64 0, .int .i64 0, .int .u32 0, .int .u64 0, .int .u64 0, .string ⟨#[]⟩, .int .u32 0, .int .u64 0] 29)).mono hb8.size)
  have AL8 := Lib.hid (AL7.out.below hbz)
  have HR8 := Lib.hid (HR7.out.below hbz)
  clear hb8 hbz AL7 HR7
  go_wp2_with fail
  refine (HPB.out _ 63 c7 _ HR8.out (by omega) (HT.out.below AL8.out.bel)).mono ?_
  rintro e W9 ⟨rfl, hb9⟩
  have AL9 := Lib.hid ((AL8.out.below hb9).alloc (.cells #[.int .i64 8, .int .i64 1980, .int .i64 1, .int .i64 1, .int .i64 0, .int .i64 0, .int .i64 0, .int .u32 7, .int .u64 3, .int .u64 5, .string ⟨#[97]⟩, .int .u32 70000, .int .u64 8589934592] 29))
  have HY9 := Lib.hid (Blk.new W9 29 #[.int .i64 8, .int .i64 1980, .int .i64 1, .int .i64 1, .int .i64 0, .int .i64 0, .int .i64 0, .int .u32 7, .int .u64 3, .int .u64 5, .string ⟨#[97]⟩, .int .u32 70000, .int .u64 8589934592])
  clear hb9 AL8 HR8
  have i46 : (46 : Int) ≤ (c : Int) := by omega
  go_wp2_with fail
  generalize W9.heap.size = gy at *
  refine (HPQ.out (some ⟨g, 0, none⟩) 46 c _ ⟨(Row.of_own AL9.out.own).take (by omega), by omega, (own_in AL9.out.own).max⟩ (by omega) (HT.out.below AL9.out.bel)).mono ?_
  rintro e W11 ⟨rfl, hb11⟩
  have AL11 := Lib.hid ((AL9.out.below hb11).alloc (.cells #[.int .i64 0, .int .i64 0, .int .i64 0, .int .i64 0, .int .i64 0, .int .i64 0, .int .i64 0, .int .u32 0, .int .u64 0, .int .u64 0, .string ⟨#[]⟩, .int .u32 0, .int .u64 0] 29))
  have HY11 := Lib.hid ((HY9.out.below HY9.out.lt hb11).below (HY9.out.below HY9.out.lt hb11).lt ((Below.refl W11.heap.size W11).alloc (Nat.le_refl _) (.cells #[.int .i64 0, .int .i64 0, .int .i64 0, .int .i64 0, .int .i64 0, .int .i64 0, .int .i64 0, .int .u32 0, .int .u64 0, .int .u64 0, .string ⟨#[]⟩, .int .u32 0, .int .u64 0] 29)))
  clear hb11 AL9 HY9
  go_wp2_with fail
  have lgh := AL11.out.h.lt
  have lgb := AL11.out.b.lt
  have lgy := HY11.out.lt
  have HBL := Lib.hid AL11.out.bel
  have hc1 := elC AL11.out.h
  have hc2 := elC AL11.out.b
  have hc3 := elC HY11.out
  clear AL11 HY11
  generalize W11.alloc (.cells #[.int .i64 0, .int .i64 0, .int .i64 0, .int .i64 0, .int .i64 0, .int .i64 0, .int .i64 0, .int .u32 0, .int .u64 0, .int .u64 0, .string ⟨#[]⟩, .int .u32 0, .int .u64 0] 29) = W12 at *
  obtain ⟨h0, h1, h2, h3, h4, h5, h6, h7, h8, h9, h10, h11, h12⟩ := hc1
  obtain ⟨d0, d1, d2, d3, d4, d5, d6, d7, d8, d9, d10, d11, d12⟩ := hc2
  obtain ⟨y0, y1, y2, y3, y4, y5, y6, y7, y8, y9, y10, y11, y12⟩ := hc3
  go_region_held3 (fun W' => W'.cell? ⟨gh, 0, none⟩ = some (.int .i64 8) ∧ W'.cell? ⟨gh, 1, none⟩ = some (.int .i64 1980) ∧ W'.cell? ⟨gh, 2, none⟩ = some (.int .i64 1) ∧ W'.cell? ⟨gh, 3, none⟩ = some (.int .i64 1) ∧ W'.cell? ⟨gh, 4, none⟩ = some (.int .i64 0) ∧ W'.cell? ⟨gh, 5, none⟩ = some (.int .i64 0) ∧ W'.cell? ⟨gh, 6, none⟩ = some (.int .i64 0) ∧ W'.cell? ⟨gh, 7, none⟩ = some (.int .u32 7) ∧ W'.cell? ⟨gh, 8, none⟩ = some (.int .u64 3) ∧ W'.cell? ⟨gh, 9, none⟩ = some (.int .u64 5) ∧ W'.cell? ⟨gh, 10, none⟩ = some (.string ⟨#[97]⟩) ∧ W'.cell? ⟨gh, 11, none⟩ = some (.int .u32 2) ∧ W'.cell? ⟨gh, 12, none⟩ = some (.int .u64 9) ∧ W'.cell? ⟨gb, 0, none⟩ = some (.int .i64 8) ∧ W'.cell? ⟨gb, 1, none⟩ = some (.int .i64 1980) ∧ W'.cell? ⟨gb, 2, none⟩ = some (.int .i64 1) ∧ W'.cell? ⟨gb, 3, none⟩ = some (.int .i64 1) ∧ W'.cell? ⟨gb, 4, none⟩ = some (.int .i64 0) ∧ W'.cell? ⟨gb, 5, none⟩ = some (.int .i64 0) ∧ W'.cell? ⟨gb, 6, none⟩ = some (.int .i64 0) ∧ W'.cell? ⟨gb, 7, none⟩ = some (.int .u32 7) ∧ W'.cell? ⟨gb, 8, none⟩ = some (.int .u64 3) ∧ W'.cell? ⟨gb, 9, none⟩ = some (.int .u64 5) ∧ W'.cell? ⟨gb, 10, none⟩ = some (.string ⟨#[97]⟩) ∧ W'.cell? ⟨gb, 11, none⟩ = some (.int .u32 70000) ∧ W'.cell? ⟨gb, 12, none⟩ = some (.int .u64 8589934592) ∧ W'.cell? ⟨gy, 0, none⟩ = some (.int .i64 8) ∧ W'.cell? ⟨gy, 1, none⟩ = some (.int .i64 1980) ∧ W'.cell? ⟨gy, 2, none⟩ = some (.int .i64 1) ∧ W'.cell? ⟨gy, 3, none⟩ = some (.int .i64 1) ∧ W'.cell? ⟨gy, 4, none⟩ = some (.int .i64 0) ∧ W'.cell? ⟨gy, 5, none⟩ = some (.int .i64 0) ∧ W'.cell? ⟨gy, 6, none⟩ = some (.int .i64 0) ∧ W'.cell? ⟨gy, 7, none⟩ = some (.int .u32 7) ∧ W'.cell? ⟨gy, 8, none⟩ = some (.int .u64 3) ∧ W'.cell? ⟨gy, 9, none⟩ = some (.int .u64 5) ∧ W'.cell? ⟨gy, 10, none⟩ = some (.string ⟨#[97]⟩) ∧ W'.cell? ⟨gy, 11, none⟩ = some (.int .u32 70000) ∧ W'.cell? ⟨gy, 12, none⟩ = some (.int .u64 8589934592)) (first
    | go_keep
    | (go_split_ands
       exact ⟨(hb1.cell (p := ⟨gh, 0, none⟩) (by first | exact lgh | exact Nat.lt_of_lt_of_le lgh hb1.size)).trans (by assumption), (hb1.cell (p := ⟨gh, 1, none⟩) (by first | exact lgh | exact Nat.lt_of_lt_of_le lgh hb1.size)).trans (by assumption), (hb1.cell (p := ⟨gh, 2, none⟩) (by first | exact lgh | exact Nat.lt_of_lt_of_le lgh hb1.size)).trans (by assumption), (hb1.cell (p := ⟨gh, 3, none⟩) (by first | exact lgh | exact Nat.lt_of_lt_of_le lgh hb1.size)).trans (by assumption), (hb1.cell (p := ⟨gh, 4, none⟩) (by first | exact lgh | exact Nat.lt_of_lt_of_le lgh hb1.size)).trans (by assumption), (hb1.cell (p := ⟨gh, 5, none⟩) (by first | exact lgh | exact Nat.lt_of_lt_of_le lgh hb1.size)).trans (by assumption), (hb1.cell (p := ⟨gh, 6, none⟩) (by first | exact lgh | exact Nat.lt_of_lt_of_le lgh hb1.size)).trans (by assumption), (hb1.cell (p := ⟨gh, 7, none⟩) (by first | exact lgh | exact Nat.lt_of_lt_of_le lgh hb1.size)).trans (by assumption), (hb1.cell (p := ⟨gh, 8, none⟩) (by first | exact lgh | exact Nat.lt_of_lt_of_le lgh hb1.size)).trans (by assumption), (hb1.cell (p := ⟨gh, 9, none⟩) (by first | exact lgh | exact Nat.lt_of_lt_of_le lgh hb1.size)).trans (by assumption), (hb1.cell (p := ⟨gh, 10, none⟩) (by first | exact lgh | exact Nat.lt_of_lt_of_le lgh hb1.size)).trans (by assumption), (hb1.cell (p := ⟨gh, 11, none⟩) (by first | exact lgh | exact Nat.lt_of_lt_of_le lgh hb1.size)).trans (by assumption), (hb1.cell (p := ⟨gh, 12, none⟩) (by first | exact lgh | exact Nat.lt_of_lt_of_le lgh hb1.size)).trans (by assumption), (hb1.cell (p := ⟨gb, 0, none⟩) (by first | exact lgb | exact Nat.lt_of_lt_of_le lgb hb1.size)).trans (by assumption), (hb1.cell (p := ⟨gb, 1, none⟩) (by first | exact lgb | exact Nat.lt_of_lt_of_le lgb hb1.size)).trans (by assumption), (hb1.cell (p := ⟨gb, 2, none⟩) (by first | exact lgb | exact Nat.lt_of_lt_of_le lgb hb1.size)).trans (by assumption), (hb1.cell (p := ⟨gb, 3, none⟩) (by first | exact lgb | exact Nat.lt_of_lt_of_le lgb hb1.size)).trans (by assumption), (hb1.cell (p := ⟨gb, 4, none⟩) (by first | exact lgb | exact Nat.lt_of_lt_of_le lgb hb1.size)).trans (by assumption), (hb1.cell (p := ⟨gb, 5, none⟩) (by first | exact lgb | exact Nat.lt_of_lt_of_le lgb hb1.size)).trans (by assumption), (hb1.cell (p := ⟨gb, 6, none⟩) (by first | exact lgb | exact Nat.lt_of_lt_of_le lgb hb1.size)).trans (by assumption), (hb1.cell (p := ⟨gb, 7, none⟩) (by first | exact lgb | exact Nat.lt_of_lt_of_le lgb hb1.size)).trans (by assumption), (hb1.cell (p := ⟨gb, 8, none⟩) (by first | exact lgb | exact Nat.lt_of_lt_of_le lgb hb1.size)).trans (by assumption), (hb1.cell (p := ⟨gb, 9, none⟩) (by first | exact lgb | exact Nat.lt_of_lt_of_le lgb hb1.size)).trans (by assumption), (hb1.cell (p := ⟨gb, 10, none⟩) (by first | exact lgb | exact Nat.lt_of_lt_of_le lgb hb1.size)).trans (by assumption), (hb1.cell (p := ⟨gb, 11, none⟩) (by first | exact lgb | exact Nat.lt_of_lt_of_le lgb hb1.size)).trans (by assumption), (hb1.cell (p := ⟨gb, 12, none⟩) (by first | exact lgb | exact Nat.lt_of_lt_of_le lgb hb1.size)).trans (by assumption), (hb1.cell (p := ⟨gy, 0, none⟩) (by first | exact lgy | exact Nat.lt_of_lt_of_le lgy hb1.size)).trans (by assumption), (hb1.cell (p := ⟨gy, 1, none⟩) (by first | exact lgy | exact Nat.lt_of_lt_of_le lgy hb1.size)).trans (by assumption), (hb1.cell (p := ⟨gy, 2, none⟩) (by first | exact lgy | exact Nat.lt_of_lt_of_le lgy hb1.size)).trans (by assumption), (hb1.cell (p := ⟨gy, 3, none⟩) (by first | exact lgy | exact Nat.lt_of_lt_of_le lgy hb1.size)).trans (by assumption), (hb1.cell (p := ⟨gy, 4, none⟩) (by first | exact lgy | exact Nat.lt_of_lt_of_le lgy hb1.size)).trans (by assumption), (hb1.cell (p := ⟨gy, 5, none⟩) (by first | exact lgy | exact Nat.lt_of_lt_of_le lgy hb1.size)).trans (by assumption), (hb1.cell (p := ⟨gy, 6, none⟩) (by first | exact lgy | exact Nat.lt_of_lt_of_le lgy hb1.size)).trans (by assumption), (hb1.cell (p := ⟨gy, 7, none⟩) (by first | exact lgy | exact Nat.lt_of_lt_of_le lgy hb1.size)).trans (by assumption), (hb1.cell (p := ⟨gy, 8, none⟩) (by first | exact lgy | exact Nat.lt_of_lt_of_le lgy hb1.size)).trans (by assumption), (hb1.cell (p := ⟨gy, 9, none⟩) (by first | exact lgy | exact Nat.lt_of_lt_of_le lgy hb1.size)).trans (by assumption), (hb1.cell (p := ⟨gy, 10, none⟩) (by first | exact lgy | exact Nat.lt_of_lt_of_le lgy hb1.size)).trans (by assumption), (hb1.cell (p := ⟨gy, 11, none⟩) (by first | exact lgy | exact Nat.lt_of_lt_of_le lgy hb1.size)).trans (by assumption), (hb1.cell (p := ⟨gy, 12, none⟩) (by first | exact lgy | exact Nat.lt_of_lt_of_le lgy hb1.size)).trans (by assumption)⟩)
    | (go_split_ands
       exact ⟨(hb2.cell (p := ⟨gh, 0, none⟩) (by first | exact lgh | exact Nat.lt_of_lt_of_le lgh hb1.size)).trans (by assumption), (hb2.cell (p := ⟨gh, 1, none⟩) (by first | exact lgh | exact Nat.lt_of_lt_of_le lgh hb1.size)).trans (by assumption), (hb2.cell (p := ⟨gh, 2, none⟩) (by first | exact lgh | exact Nat.lt_of_lt_of_le lgh hb1.size)).trans (by assumption), (hb2.cell (p := ⟨gh, 3, none⟩) (by first | exact lgh | exact Nat.lt_of_lt_of_le lgh hb1.size)).trans (by assumption), (hb2.cell (p := ⟨gh, 4, none⟩) (by first | exact lgh | exact Nat.lt_of_lt_of_le lgh hb1.size)).trans (by assumption), (hb2.cell (p := ⟨gh, 5, none⟩) (by first | exact lgh | exact Nat.lt_of_lt_of_le lgh hb1.size)).trans (by assumption), (hb2.cell (p := ⟨gh, 6, none⟩) (by first | exact lgh | exact Nat.lt_of_lt_of_le lgh hb1.size)).trans (by assumption), (hb2.cell (p := ⟨gh, 7, none⟩) (by first | exact lgh | exact Nat.lt_of_lt_of_le lgh hb1.size)).trans (by assumption), (hb2.cell (p := ⟨gh, 8, none⟩) (by first | exact lgh | exact Nat.lt_of_lt_of_le lgh hb1.size)).trans (by assumption), (hb2.cell (p := ⟨gh, 9, none⟩) (by first | exact lgh | exact Nat.lt_of_lt_of_le lgh hb1.size)).trans (by assumption), (hb2.cell (p := ⟨gh, 10, none⟩) (by first | exact lgh | exact Nat.lt_of_lt_of_le lgh hb1.size)).trans (by assumption), (hb2.cell (p := ⟨gh, 11, none⟩) (by first | exact lgh | exact Nat.lt_of_lt_of_le lgh hb1.size)).trans (by assumption), (hb2.cell (p := ⟨gh, 12, none⟩) (by first | exact lgh | exact Nat.lt_of_lt_of_le lgh hb1.size)).trans (by assumption), (hb2.cell (p := ⟨gb, 0, none⟩) (by first | exact lgb | exact Nat.lt_of_lt_of_le lgb hb1.size)).trans (by assumption), (hb2.cell (p := ⟨gb, 1, none⟩) (by first | exact lgb | exact Nat.lt_of_lt_of_le lgb hb1.size)).trans (by assumption), (hb2.cell (p := ⟨gb, 2, none⟩) (by first | exact lgb | exact Nat.lt_of_lt_of_le lgb hb1.size)).trans (by assumption), (hb2.cell (p := ⟨gb, 3, none⟩) (by first | exact lgb | exact Nat.lt_of_lt_of_le lgb hb1.size)).trans (by assumption), (hb2.cell (p := ⟨gb, 4, none⟩) (by first | exact lgb | exact Nat.lt_of_lt_of_le lgb hb1.size)).trans (by assumption), (hb2.cell (p := ⟨gb, 5, none⟩) (by first | exact lgb | exact Nat.lt_of_lt_of_le lgb hb1.size)).trans (by assumption), (hb2.cell (p := ⟨gb, 6, none⟩) (by first | exact lgb | exact Nat.lt_of_lt_of_le lgb hb1.size)).trans (by assumption), (hb2.cell (p := ⟨gb, 7, none⟩) (by first | exact lgb | exact Nat.lt_of_lt_of_le lgb hb1.size)).trans (by assumption), (hb2.cell (p := ⟨gb, 8, none⟩) (by first | exact lgb | exact Nat.lt_of_lt_of_le lgb hb1.size)).trans (by assumption), (hb2.cell (p := ⟨gb, 9, none⟩) (by first | exact lgb | exact Nat.lt_of_lt_of_le lgb hb1.size)).trans (by assumption), (hb2.cell (p := ⟨gb, 10, none⟩) (by first | exact lgb | exact Nat.lt_of_lt_of_le lgb hb1.size)).trans (by assumption), (hb2.cell (p := ⟨gb, 11, none⟩) (by first | exact lgb | exact Nat.lt_of_lt_of_le lgb hb1.size)).trans (by assumption), (hb2.cell (p := ⟨gb, 12, none⟩) (by first | exact lgb | exact Nat.lt_of_lt_of_le lgb hb1.size)).trans (by assumption), (hb2.cell (p := ⟨gy, 0, none⟩) (by first | exact lgy | exact Nat.lt_of_lt_of_le lgy hb1.size)).trans (by assumption), (hb2.cell (p := ⟨gy, 1, none⟩) (by first | exact lgy | exact Nat.lt_of_lt_of_le lgy hb1.size)).trans (by assumption), (hb2.cell (p := ⟨gy, 2, none⟩) (by first | exact lgy | exact Nat.lt_of_lt_of_le lgy hb1.size)).trans (by assumption), (hb2.cell (p := ⟨gy, 3, none⟩) (by first | exact lgy | exact Nat.lt_of_lt_of_le lgy hb1.size)).trans (by assumption), (hb2.cell (p := ⟨gy, 4, none⟩) (by first | exact lgy | exact Nat.lt_of_lt_of_le lgy hb1.size)).trans (by assumption), (hb2.cell (p := ⟨gy, 5, none⟩) (by first | exact lgy | exact Nat.lt_of_lt_of_le lgy hb1.size)).trans (by assumption), (hb2.cell (p := ⟨gy, 6, none⟩) (by first | exact lgy | exact Nat.lt_of_lt_of_le lgy hb1.size)).trans (by assumption), (hb2.cell (p := ⟨gy, 7, none⟩) (by first | exact lgy | exact Nat.lt_of_lt_of_le lgy hb1.size)).trans (by assumption), (hb2.cell (p := ⟨gy, 8, none⟩) (by first | exact lgy | exact Nat.lt_of_lt_of_le lgy hb1.size)).trans (by assumption), (hb2.cell (p := ⟨gy, 9, none⟩) (by first | exact lgy | exact Nat.lt_of_lt_of_le lgy hb1.size)).trans (by assumption), (hb2.cell (p := ⟨gy, 10, none⟩) (by first | exact lgy | exact Nat.lt_of_lt_of_le lgy hb1.size)).trans (by assumption), (hb2.cell (p := ⟨gy, 11, none⟩) (by first | exact lgy | exact Nat.lt_of_lt_of_le lgy hb1.size)).trans (by assumption), (hb2.cell (p := ⟨gy, 12, none⟩) (by first | exact lgy | exact Nat.lt_of_lt_of_le lgy hb1.size)).trans (by assumption)⟩))
    ((first
      | (go_at_call 19
         refine (sample_c _).mono ?_
         unfold smA
         rintro e w2 ⟨rfl, hb1⟩)
      | (go_at_call 13
         refine (HS.out _).mono ?_
         rintro e w3 ⟨rfl, hb2⟩)))
  go_wp2
  go_ret
  have hbD := below_drewL HBL.out
  have hbE := hbD.trans (hb1.mono hbD.size)
  exact ⟨rfl, hbE.trans (hb2.mono hbE.size)⟩
end Go.Proofs.YtacllgglpjdobaaDoor
