/-
  SEALS: the sums that were laid row by row, read: told. Rows of at most 100000 bytes.
-/
import Derived.Test.YtbgdoemealddpaaDoorSlk
namespace Go.Proofs.YtbgdoemealddpaaDoor
open Go.RowKit
set_option maxRecDepth 100000
set_option linter.unusedVariables false

/-- a row's sums -/
def tdR (l : List F) (q r : Nat) : List G := (List.range q).map fun j => ofG (atL l (4 * (r * q + j)) 4)
theorem tdR_length (l : List F) (q r : Nat) : (tdR l q r).length = q := by simp [tdR]
theorem tdR_gs (l : List F) (q r : Nat) {ys : List Value} (hl : ys.length = q) (h : ∀ j, j < q → ys[j]? = some (.int .u32 (atL l (4 * (r * q + j)) 4 : Nat))) : ys = gs (tdR l q r) := by
  refine List.ext_getElem? fun j => ?_
  by_cases hj : j < q
  · rw [h j hj, gs_at (by rw [tdR_length]; exact hj)]
    unfold gg tdR
    simp [hj, ofG_n _ (atL_lt4 l (4 * (r * q + j)))]
  · rw [List.getElem?_eq_none (by omega), List.getElem?_eq_none (by rw [gs_length, tdR_length]; omega)]
theorem GBld.step {w w' : World} {base g n lo k : Nat} {Lf : Nat → Nat} {S : Nat → List G} {xs : List Value} (h : GBld w base g n lo Lf S k xs) (hk : k < n) (hs : w.heap.size ≤ w'.heap.size) (hb : ∀ b, b < w.heap.size → lo ≤ b → b ≠ g → w'.heap[b]? = w.heap[b]?)
    {A : Option Addr} {c : Nat} (own' : w'.ownsRow base 56 1 (.slice (some ⟨g, 0, none⟩) n n) n (xs.set k (.slice A (Lf k) c))) (hr : GRow w' A (Lf k) (S k)) (h1 : Lf k ≤ c) (h2 : c ≤ maxLen) (h3 : 0 < Lf k → ∀ x, A = some x → lo ≤ x.block ∧ x.block ≠ g) :
    GBld w' base g n lo Lf S (k + 1) (xs.set k (.slice A (Lf k) c)) := by
  have hl : xs.length = n := by simpa using h.own.1
  refine ⟨own', fun r hr' => ?_⟩
  by_cases e : r = k
  · subst e
    exact ⟨A, c, by rw [List.getElem?_set_self (by omega)], hr, h1, h2, h3⟩
  · obtain ⟨A', c', e1, e2, e3, e4, e5⟩ := h.rows r (by omega)
    exact ⟨A', c', by rw [List.getElem?_set_ne (fun h => e h.symm)]; exact e1, e2.keepS hs (fun b o hm ea hlt => hb b hlt (e5 hm _ ea).1 (e5 hm _ ea).2), e3, e4, e5⟩
/-- while sums are told -/
structure TdS (w W : World) (H : Array Value) (p : Nat) (A : Option Addr) (m c : Nat) (l : List F) (g M Q r : Nat) (xs : List Value) : Prop where
  box : Blk W w.heap.size 23 H
  rd : Rdr W p A m c l (4 * (r * Q)) false
  bld : GBld W w.heap.size g M g (fun _ => Q) (tdR l Q) r xs
  pw : w.heap.size < p
  pg : p < g
  ag : ∀ b o, A = some ⟨b, o, none⟩ → w.heap.size < b ∧ b < g
  bel : Below w.heap.size w W
theorem TdS.below {w W W' : World} {H : Array Value} {p : Nat} {A : Option Addr} {m c : Nat} {l : List F} {g M Q r : Nat} {xs : List Value} (h : TdS w W H p A m c l g M Q r xs) (hb : Below W.heap.size W W') : TdS w W' H p A m c l g M Q r xs :=
  ⟨h.box.below h.box.lt hb, h.rd.below hb, h.bld.below hb, h.pw, h.pg, h.ag, h.bel.trans (hb.mono h.bel.size)⟩
theorem out_wout {p : Nat} {a : Option Nat} {w w' : World} (h : Out p (p + 1) w w') : WOut p a a w w' := ⟨h.os, h.tape, h.output, h.size, fun k hk hp _ => h.block k hk (by omega), .inl rfl⟩
set_option maxHeartbeats 8000000 in
theorem told_c {n k s b : Nat} (h : Wf4 n k s b) (hr : right23 n k s b = true) {w : World} {A : Option Addr} {m c : Nat} {l : List F} (hR : Row w A m l) (hm : m = smN (blkN s b) (n + k)) (hm9 : m ≤ 100000) :
    Calls Tryd.prog 41 #[.slice A m c, .agg #[.int .i64 (n : Int), .int .i64 (k : Int), .int .i64 (s : Int), .int .i64 (b : Int)]] w fun e w' => ∃ g RA RC, e = .returned (.slice (some ⟨g, 0, none⟩) (n + k) (n + k)) ∧ GIn w' (some ⟨g, 0, none⟩) (n + k) (n + k) RA (fun _ => blkN s b) RC (tdR l (blkN s b)) ∧ Below w.heap.size w w' ∧ w.heap.size < g ∧ ∀ r, r < n + k → 0 < blkN s b → ∀ x, RA r = some x → g ≤ x.block := by
  obtain ⟨i0, hi, hz0, hz1, hz2⟩ := info_parts info_words
  obtain ⟨i1, hi1, hy0, hy1, hy2⟩ := info_parts info_u32
  have hx := of_decide_eq_true hr
  have hb := (Below.refl w.heap.size w).alloc (Nat.le_refl _) (.cells #[.int .i64 (n : Int), .int .i64 (k : Int), .int .i64 (s : Int), .int .i64 (b : Int)] 23)
  have hK := Blk.new w 23 #[.int .i64 (n : Int), .int .i64 (k : Int), .int .i64 (s : Int), .int .i64 (b : Int)]
  have HB := Lib.hid hb
  have HK := Lib.hid hK
  have HR := Lib.hid (hR.below hb)
  have hBk := Blocks_yes h hr
  change ∀ w, Calls _ _ _ w fun e w' => e = .returned (.int .i64 ((blkN s b : Nat) : Int)) ∧ _ at hBk
  have hq9 : blkN s b ≤ 33554440 := blkN_le (by omega) (by omega)
  have hn1 : 1 ≤ n := by omega
  have hqp : 1 ≤ blkN s b := blkN_pos (by omega)
  generalize blkN s b = Q at *
  have HBK := Lib.hid hBk
  obtain ⟨M, hM⟩ : ∃ M, M = n + k := ⟨_, rfl⟩
  rw [← hM] at hm ⊢
  have hM9 : M ≤ 255 := by omega
  have hnk : IntKind.i64.wrap ((n : Int) + (k : Int)) = (M : Int) := (IntWalk.i64_in _ (by omega)).trans (by omega)
  have hMI : Hid ((n : Int) + (k : Int) = (M : Int)) := by unfold Hid; omega
  have HM : Hid (m = smN Q M) := hm
  have hQ9 : Q ≤ 100000 := by
    have h1 : 1 * (Q * 4) ≤ M * (Q * 4) := Nat.mul_le_mul_right _ (by omega)
    unfold smN at hm
    omega
  have hm0 : 0 < m := by
    have h1 : 1 * (1 * 4) ≤ M * (Q * 4) := Nat.mul_le_mul (by omega) (by omega)
    unfold smN at hm
    omega
  have hnb : n ≤ 255 := by omega
  have hkb : k ≤ 255 := by omega
  clear hx hb hK hR hBk hM hm h hr
  go_enter Tryd.func41, Tryd.ntmps41
  go_wp2_with fail
  refine (Read_d A m c l _ HR.out (by omega)).mono ?_
  rintro e W1 ⟨p, A1, c1, rfl, hrd, hp, hb1, hal⟩
  have HRD := Lib.hid hrd
  have HB1 := Lib.hid (HB.out.trans (hb1.mono HB.out.size))
  have HK1 := Lib.hid (HK.out.below HK.out.lt hb1)
  have hsz : w.heap.size + 1 ≤ p := by simpa using hp
  have HAL : Hid (∀ b o, A1 = some ⟨b, o, none⟩ → w.heap.size < b ∧ b < W1.heap.size) := fun b o e => by
    have h1 := hal b o e
    simp at h1
    refine ⟨by omega, ?_⟩
    obtain ⟨b', o', e', hb', _⟩ := hrd.row.row.2.2 hm0
    rw [e'] at e
    cases e
    exact hb'
  have hpl := hrd.lt
  clear hrd hp hb1 hal HK HB HR
  have z0 := (HK1.out.cell 0).trans (show _ = some (Value.int .i64 (n : Int)) from rfl)
  have z1 := (HK1.out.cell 1).trans (show _ = some (Value.int .i64 (k : Int)) from rfl)
  have hlt1 := HK1.out.lt
  go_wp2_with (at_make; refine wpList_make_full _ rfl _ _ 24 rfl w.heap.size 56 i0 (.slice none 0 0) 1 Tryd.underlying24 hi hz0 hz1 _ _ _ _ M rfl rfl rfl rfl (by rw [hz2]; omega) (by unfold maxLen; omega) (by omega) ?_; intro w0 hown0 hgrow0)
  have hbg : Below W1.heap.size W1 w0 := (Below.refl _ _).grown hgrow0 (Nat.le_refl _) (fun k h => by cases h)
  have S0 := Lib.hid (TdS.mk (w := w) (W := w0) (H := #[.int .i64 (n : Int), .int .i64 (k : Int), .int .i64 (s : Int), .int .i64 (b : Int)]) (g := W1.heap.size) (M := M) (Q := Q) (r := 0) (HK1.out.below hlt1 hbg) (by rw [Nat.zero_mul]; exact HRD.out.below hbg) (GBld.mk (lo := W1.heap.size) (Lf := fun _ => Q) (S := tdR l Q) (k := 0) hown0 (fun r hr => by omega)) (by omega) hpl HAL.out (HB1.out.trans (hbg.mono HB1.out.size)))
  generalize hg : W1.heap.size = g at *
  clear hown0 hgrow0 hbg HRD HK1 HB1 z0 z1
  go_wp2
  go_loopw [19] (fun iv wr => ∃ (r : Nat) (xs : List Value), r ≤ M ∧ iv = .int .i64 r ∧ Hid (TdS w wr #[.int .i64 (n : Int), .int .i64 (k : Int), .int .i64 (s : Int), .int .i64 (b : Int)] p A1 m c1 l g M Q r xs)) (fun iv _ => M - (intOf iv).toNat)
  case atStart => exact ⟨0, _, by omega, rfl, S0⟩
  case round =>
    obtain ⟨r, xs, hr, rfl, hS⟩ := hrel
    obtain ⟨W2, hW2⟩ : ∃ W2, W2 = wr := ⟨_, rfl⟩
    subst hW2
    by_cases hlt : r < M
    · have hrm : (r : Int) < M := by omega
      have hr0 : (0 : Int) ≤ (r : Int) := by omega
      have z0 := (hS.out.box.cell 0).trans (show _ = some (Value.int .i64 (n : Int)) from rfl)
      have z1 := (hS.out.box.cell 1).trans (show _ = some (Value.int .i64 (k : Int)) from rfl)
      have z2 := (hS.out.box.cell 2).trans (show _ = some (Value.int .i64 (s : Int)) from rfl)
      have z3 := (hS.out.box.cell 3).trans (show _ = some (Value.int .i64 (b : Int)) from rfl)
      go_wp2_with fail
      refine (HBK.out _).mono ?_
      rintro e W3 ⟨rfl, hb3⟩
      have S3 := Lib.hid (hS.out.below hb3)
      clear hb3 hS z0 z1 z2 z3
      have hx3 : ∃ u, xs[r]? = some u := by
        have h2 : xs.length = M := by simpa using S3.out.bld.own.1
        exact ⟨xs[r]'(by omega), List.getElem?_eq_getElem _⟩
      obtain ⟨u3, hx3⟩ := hx3
      have HX3 := Lib.hid hx3
      clear hx3
      go_wp2_with (at_make; refine wpList_make_full _ rfl _ _ 56 rfl W3.heap.size 54 i1 (.int .u32 0) 1 Tryd.underlying56 hi1 hy0 hy1 _ _ _ _ Q rfl rfl rfl rfl (by rw [hy2]; omega) (by unfold maxLen; omega) (Nat.le_refl _) ?_; intro W4 hown4 hgrow4; have HB4 := Lib.hid (show Below W3.heap.size W3 W4 from (Below.refl _ _).grown hgrow4 (Nat.le_refl _) (fun k h => by cases h)); have S4 := Lib.hid (S3.out.below HB4.out); have HO4 := Lib.hid hown4; clear hown4 hgrow4; have f4 := S4.out.bld.own.frozenAt r; have x4 := (S4.out.bld.own.cellAt r (by omega)).trans HX3.out)
      obtain ⟨gi, hgi⟩ : ∃ gi, gi = W3.heap.size := ⟨_, rfl⟩
      rw [← hgi] at HO4 HB4
      have hgi9 : g < gi := by rw [hgi]; exact S3.out.bld.lt
      have hpi : p < gi := Nat.lt_trans S3.out.pg hgi9
      have hpg := S3.out.pg
      have hsz4 : gi < W4.heap.size := (HO4.out.lt gi rfl).2
      obtain ⟨W5, hW5⟩ : ∃ W5, W5 = W4.setCell ⟨g, r, none⟩ (.slice (some ⟨gi, 0, none⟩) Q Q) := ⟨_, rfl⟩
      have ho5 : Out g (g + 1) W4 W5 := by rw [hW5]; exact (Out.refl _ _ W4).setCell r _
      have HO5 := Lib.hid (ho5.own HO4.out (by omega))
      have HR5 := Lib.hid (S4.out.rd.out ho5 (by omega) (fun b o e => by have := S4.out.ag b o e; omega))
      have HT5 : Hid (W5.ownsRow w.heap.size 56 1 (.slice (some ⟨g, 0, none⟩) M M) M (xs.set r (.slice (some ⟨gi, 0, none⟩) Q Q))) := by rw [hW5]; exact (S4.out.bld.own.stored r _).1
      have HX5 := Lib.hid (S4.out.box.lowB (B := g) (by have := S4.out.pw; omega) (ho5.below (by omega)))
      have hsz5 : W4.heap.size ≤ W5.heap.size := ho5.size
      have HB5 : Hid (Below w.heap.size w W5) := S4.out.bel.trans ((ho5.below (by omega)).mono (by have := S4.out.pw; omega))
      have HK5 : Hid (∀ b, b < gi → b ≠ g → W5.heap[b]? = W3.heap[b]?) := fun b hb hbg => (ho5.block b (by omega) (by omega)).trans (HB4.out.block b hb)
      rw [← hgi, ← hW5]
      have HGI := Lib.hid hgi
      clear hgi
      clear HO4 S4 ho5 f4 x4 hW5
      go_wp2
      go_loopw [33] (fun jv wr => ∃ (j : Nat) (ys : List Value), j ≤ Q ∧ jv = .int .i64 j ∧ Hid (Rdr wr p A1 m c1 l (4 * (r * Q + j)) false) ∧ Hid (wr.ownsRow gi 54 1 (.slice (some ⟨gi, 0, none⟩) Q Q) Q ys) ∧ Hid (∀ i, i < j → ys[i]? = some (.int .u32 (atL l (4 * (r * Q + i)) 4 : Nat))) ∧ Hid (WOut p (some gi) (some gi) W5 wr)) (fun jv _ => Q - (intOf jv).toNat)
      case atStart => exact ⟨0, _, by omega, rfl, HR5, HO5, fun i hi => absurd hi (by omega), WOut.refl _ _ _⟩
      case round =>
        obtain ⟨j, ys, hj, rfl, hRd, hOw, hYs, hWo⟩ := hrel
        have hwz := hWo.out.size
        have hgw : g < wr.heap.size := by omega
        by_cases hjl : j < Q
        · have hjQ : (j : Int) < Q := by omega
          have hj0 : (0 : Int) ≤ (j : Int) := by omega
          have q1 : wr.cell? ⟨g, r, none⟩ = some (.slice (some ⟨gi, 0, none⟩) Q Q) := (World.cell?_of_block (a := ⟨g, r, none⟩) (hWo.out.block g (by omega) (by omega) (fun e => by injection e with e; omega))).trans ((HT5.out.cellAt r (by omega)).trans (by rw [List.getElem?_set_self (by have : xs.length = M := (by simpa using S3.out.bld.own.1); omega)]))
          have hat : 4 * (r * Q + j) + 4 ≤ m := by
            have h1 : (r + 1) * Q ≤ M * Q := Nat.mul_le_mul_right _ hlt
            have h2 := HM.out
            unfold smN at h2
            rw [← Nat.mul_assoc] at h2
            rw [Nat.add_mul, Nat.one_mul] at h1
            omega
          have hlv := atL_lt4 l (4 * (r * Q + j))
          have HNum := Lib.hid (fun W (hh : Rdr W p A1 m c1 l (4 * (r * Q + j)) false) => Num_ok hh (4 : Int) (by rw [show heldN (4 : Int) 8 = 4 from rfl]; exact hat))
          have hval : Hid (getL ((l.drop (4 * (r * Q + j))).take 4) = atL l (4 * (r * Q + j)) 4) := (atL_eq l _ 4 (by omega)).symm
          have hyl : ys.length = Q := by simpa using hOw.out.1
          obtain ⟨yj, hyj⟩ : ∃ yj, Hid (ys[j]? = some yj) := ⟨ys[j]'(by omega), List.getElem?_eq_getElem _⟩
          have hnx : Hid (4 * (r * Q + (j + 1)) = 4 * (r * Q + j) + 4) := by unfold Hid; omega
          have HVJ := Lib.hid (show atL l (4 * (r * Q + j)) 4 = atL l (4 * (r * Q + j)) 4 from rfl)
          obtain ⟨v, hvv⟩ : ∃ v, v = atL l (4 * (r * Q + j)) 4 := ⟨_, rfl⟩
          rw [← hvv] at hval hlv
          have HVV := Lib.hid hvv
          clear hvv HVJ hyl hwz
          have u32 : IntKind.u32.wrap (v : Int) = (v : Int) := by show (v : Int) % 4294967296 = _; omega
          go_wp2_with fail
          refine wp_region_held_drew (S := fun W' => W'.cell? ⟨g, r, none⟩ = some (.slice (some ⟨gi, 0, none⟩) Q Q)) (by kernel_rfl) ?_ (fun hHeld => ?_)
          · go_keep
          refine wpAnyH_take (i := 0) (oi := { dst := some 36, op := _, type := _, pos := _, after := _, guard := _ }) (v := ?_) rfl (by kernel_rfl) (by kernel_rfl) (by kernel_rfl) (fun _ _ _ h => h) (Or.inl ⟨by rfl, ?_⟩) (by assumption) ?_
          rotate_left
          · intro w' hSw
            try dsimp only at hSw
            go_simp
            try with_reducible rfl
          try simp only [Act.put, List.setIfInBounds_toArray, List.set_cons_zero, List.set_cons_succ]
          refine wpAnyH_take (i := 1) (oi := { dst := some 37, op := _, type := _, pos := _, after := _, guard := _ }) (v := ?_) rfl (by kernel_rfl) (by kernel_rfl) (by kernel_rfl) (fun _ _ _ h => h) (Or.inl ⟨by rfl, ?_⟩) (by assumption) ?_
          rotate_left
          · intro w' hSw
            try dsimp only at hSw
            go_simp
            try with_reducible rfl
          try simp only [Act.put, List.setIfInBounds_toArray, List.set_cons_zero, List.set_cons_succ]
          refine wpAnyH_take (i := 2) (oi := { dst := some 38, op := _, type := _, pos := _, after := _, guard := _ }) (v := ?_) rfl (by kernel_rfl) (by kernel_rfl) (by kernel_rfl) (fun _ _ _ h => h) (Or.inl ⟨by rfl, ?_⟩) (by assumption) ?_
          rotate_left
          · intro w' hSw
            try dsimp only at hSw
            go_simp
            try with_reducible rfl
          try simp only [Act.put, List.setIfInBounds_toArray, List.set_cons_zero, List.set_cons_succ]
          refine wpAnyH_take (i := 3) (oi := { dst := some 39, op := _, type := _, pos := _, after := _, guard := _ }) (v := ?_) rfl (by kernel_rfl) (by kernel_rfl) (by kernel_rfl) (fun _ _ _ h => h) (Or.inl ⟨by rfl, ?_⟩) (by assumption) ?_
          rotate_left
          · intro w' hSw
            try dsimp only at hSw
            go_simp
            try with_reducible rfl
          try simp only [Act.put, List.setIfInBounds_toArray, List.set_cons_zero, List.set_cons_succ]
          refine wpAnyH_take (i := 4) (oi := { dst := some 40, op := _, type := _, pos := _, after := _, guard := _ }) (v := ?_) rfl (by kernel_rfl) (by kernel_rfl) (by kernel_rfl) (fun _ _ _ h => h) (Or.inl ⟨by rfl, ?_⟩) (by assumption) ?_
          rotate_left
          · intro w' hSw
            try dsimp only at hSw
            go_simp
            try with_reducible rfl
          try simp only [Act.put, List.setIfInBounds_toArray, List.set_cons_zero, List.set_cons_succ]
          refine wpAnyH_take (i := 5) (oi := { dst := some 41, op := _, type := _, pos := _, after := _, guard := _ }) (v := ?_) rfl (by kernel_rfl) (by kernel_rfl) (by kernel_rfl) (fun _ _ _ h => h) (Or.inl ⟨by rfl, ?_⟩) (by assumption) ?_
          rotate_left
          · intro w' hSw
            try dsimp only at hSw
            go_simp
            try with_reducible rfl
          try simp only [Act.put, List.setIfInBounds_toArray, List.set_cons_zero, List.set_cons_succ]
          refine wpAnyH_ready (rs := [6]) (by kernel_rfl) (by simp) ?_
          refine AllReadyH.cons (o := { dst := some 42, op := _, type := _, pos := _, after := _, guard := _ }) rfl (fun K hK => ?_) AllReadyH.nil
          go_simp
          go_at_call 53
          refine (HNum.out _ (hRd.out.drewN 1)).mono ?_
          rintro e W8 ⟨rfl, hr8, ho8⟩
          rw [show heldN (4 : Int) 8 = 4 from rfl] at hr8
          rw [show heldN (4 : Int) 8 = 4 from rfl, hval.out]
          have q8 : W8.cell? ⟨g, r, none⟩ = some (.slice (some ⟨gi, 0, none⟩) Q Q) := (World.cell?_of_block (a := ⟨g, r, none⟩) (ho8.block g hgw (by omega))).trans q1
          have HO8 := Lib.hid (ho8.own (show wr.drew.ownsRow gi 54 1 (.slice (some ⟨gi, 0, none⟩) Q Q) Q ys from hOw.out) (by omega))
          have HW8 := Lib.hid (hWo.out.drew.trans (out_wout ho8))
          have HR8 := Lib.hid hr8
          have x8 := HO8.out.cellAt j (by omega)
          have f8 := HO8.out.frozenAt j
          rw [hyj.out] at x8
          clear hr8 ho8
          refine hK.out _ _ ?_ (fun hHeld => ?_)
          · exact q8
          clear hK K
          try simp only [Act.put, List.setIfInBounds_toArray, List.set_cons_zero, List.set_cons_succ]
          refine wpAnyH_take (i := 7) (oi := { dst := some 43, op := _, type := _, pos := _, after := _, guard := _ }) (v := ?_) rfl (by kernel_rfl) (by kernel_rfl) (by kernel_rfl) (fun _ _ _ h => h) (Or.inl ⟨by rfl, ?_⟩) (by assumption) ?_
          rotate_left
          · intro w' hSw
            try dsimp only at hSw
            go_simp
            try with_reducible rfl
          try simp only [Act.put, List.setIfInBounds_toArray, List.set_cons_zero, List.set_cons_succ]
          refine wpAnyH_take (i := 8) (oi := { dst := some 44, op := _, type := _, pos := _, after := _, guard := _ }) (v := ?_) rfl (by kernel_rfl) (by kernel_rfl) (by kernel_rfl) (fun _ _ _ h => h) (Or.inl ⟨by rfl, ?_⟩) (by assumption) ?_
          rotate_left
          · intro w' hSw
            try dsimp only at hSw
            go_simp
            try with_reducible rfl
          try simp only [Act.put, List.setIfInBounds_toArray, List.set_cons_zero, List.set_cons_succ]
          refine wpAnyH_ready (rs := [9]) (by kernel_rfl) (by simp) ?_
          refine AllReadyH.cons (o := { dst := none, op := _, type := _, pos := _, after := _, guard := _ }) rfl (fun K hK => ?_) AllReadyH.nil
          go_simp
          try go_wp2_with fail
          refine hK.out _ _ ?_ (fun hHeld => ?_)
          · exact (World.cell?_of_block (Below.heap_setCell _ _ _ _ (by simp; omega))).trans q8
          clear hK K
          try simp only [Act.put, List.setIfInBounds_toArray, List.set_cons_zero, List.set_cons_succ]
          refine wpAnyH_done (by kernel_rfl) ?_ _
          have R9 := Lib.hid (HR8.out.out ((Out.refl gi (gi + 1) W8).setCell j (.int .u32 (v : Int))) (by omega) (fun b o e => by have := S3.out.ag b o e; omega))
          rw [← hnx.out] at R9
          have O9 := Lib.hid (HO8.out.stored j (.int .u32 (v : Int))).1
          have Y9 : Hid (∀ i, i < j + 1 → (ys.set j (.int .u32 (v : Int)))[i]? = some (.int .u32 (atL l (4 * (r * Q + i)) 4 : Nat))) := fun i hi => by
            by_cases e : i = j
            · subst e
              rw [List.getElem?_set_self (by have : ys.length = Q := (by simpa using hOw.out.1); omega), HVV.out]
            · rw [List.getElem?_set_ne (fun h => e h.symm)]
              exact hYs.out i (by omega)
          have W9 := Lib.hid (HW8.out.setG j (.int .u32 (v : Int)))
          clear HR8 HO8 HW8 x8 f8 q8 q1
          go_wp2
          go_roundw
          case rel => exact ⟨j + 1, _, by omega, by go_num, R9, O9, Y9, W9⟩
          case measure => simp [intOf]; omega
        · obtain rfl : j = Q := by omega
          have he := tdR_gs l j r (by simpa using hOw.out.1) (fun i hi => hYs.out i hi)
          have hOw2 := hOw.out
          rw [he] at hOw2
          have hgr := GRow.of_own hOw2
          have hcap := own_caps6 hOw2
          have hsg := HGI.out
          have hown' : wr.ownsRow w.heap.size 56 1 (.slice (some ⟨g, 0, none⟩) M M) M (xs.set r (.slice (some ⟨gi, 0, none⟩) j j)) := own_woutL hWo.out HT5.out (fun g' e => by
            have e2 : g = g' := by injection e
            subst e2
            exact ⟨by omega, fun e3 => by injection e3 with e3; omega⟩)
          have hbld := S3.out.bld.step (w' := wr) hlt (by omega) (fun b hb h1 h2 => (hWo.out.block b (by omega) (by omega) (fun e3 => by injection e3 with e3; omega)).trans (HK5.out b (by omega) h2)) hown' (show GRow wr (some ⟨gi, 0, none⟩) j (tdR l j r) from hgr) (Nat.le_refl _) (by unfold maxLen; omega) (fun _ x e => by injection e with e; subst e; exact ⟨by show g ≤ gi; omega, by show gi ≠ g; omega⟩)
          have S9 : Hid (TdS w wr #[.int .i64 (n : Int), .int .i64 (k : Int), .int .i64 (s : Int), .int .i64 (b : Int)] p A1 m c1 l g M j (r + 1) (xs.set r (.slice (some ⟨gi, 0, none⟩) j j))) := by
            refine ⟨(hWo.out.block _ ?_ ?_ ?_).trans HX5.out, ?_, hbld, S3.out.pw, S3.out.pg, S3.out.ag, HB5.out.trans (hWo.out.below (Nat.le_of_lt S3.out.pw) HB5.out.size (fun g' e => by injection e with e; have := S3.out.pw; omega))⟩
            · have := S3.out.pw; omega
            · have := S3.out.pw; omega
            · intro e3; injection e3 with e3; have := S3.out.pw; omega
            · have h4 := hRd.out
              rw [show 4 * (r * j + j) = 4 * ((r + 1) * j) by rw [Nat.add_mul, Nat.one_mul]] at h4
              exact h4
          clear hbld hown' hgr hOw2 he hsg hcap
          go_wp2
          go_roundw
          case rel => exact ⟨r + 1, _, by omega, by go_num, S9⟩
          case measure => simp [intOf]; omega
    · obtain rfl : r = M := by omega
      obtain ⟨RA, RC, hgin, hlo⟩ := hS.out.bld.done
      go_wp2
      go_ret
      exact ⟨g, RA, RC, rfl, hgin, hS.out.bel, Nat.lt_trans hS.out.pw hS.out.pg, hlo⟩
end Go.Proofs.YtbgdoemealddpaaDoor
