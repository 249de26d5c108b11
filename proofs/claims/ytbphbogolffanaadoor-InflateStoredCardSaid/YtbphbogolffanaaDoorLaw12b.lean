/-
  LAW 12's WALK: InflateStored: it returns true, and writes nothing that was there. No conditions (but that the tables lie as the program's text lays them).
-/
import Derived.Test.YtbphbogolffanaaDoorLaw12
import Derived.Test.YtbphbogolffanaaDoorInfP
namespace Go.Proofs.YtbphbogolffanaaDoor
open Go.RowKit
set_option maxRecDepth 100000
set_option linter.unusedVariables false

theorem num16_of {a : Int} (h : (Lit.int .u16 a).wf = true) : ∃ v : Nat, v < 65536 ∧ a = (v : Int) := by
  have h1 : 0 ≤ a ∧ a < 65536 := by
    simp [Lit.wf, IntKind.min, IntKind.max, IntKind.bits, IntKind.signed] at h
    omega
  exact ⟨a.toNat, by omega, by omega⟩
theorem and255i (x : Int) : bits .and .i64 x 255 = (((x % 256).toNat : Nat) : Int) := by
  have h := andLow x 8 (by decide)
  rw [show (255 : Int) = ((2 ^ 8 - 1 : Nat) : Int) from rfl, h]
  omega
theorem not255 (s : Nat) (h : s ≤ 255) : bits .xor .i64 (-1) (s : Int) = -(s : Int) - 1 := by
  have : ∀ s, s < 256 → bits .xor .i64 (-1) ((s : Nat) : Int) = -(s : Int) - 1 := by decide +kernel
  exact this s (by omega)
theorem lit5 (y : Int) (x s : Nat) (hy : y = (x : Int)) (hx : x < 256) (h : s ≤ 255) : #[Value.int .u8 y, .int .u8 s, .int .u8 ((s : Int) / 256), .int .u8 (bits .xor .i64 (if IntKind.i64.signed = true then -1 else 9223372036854775807) s % 256), .int .u8 (bits .xor .i64 (if IntKind.i64.signed = true then -1 else 9223372036854775807) s / 256 % 256)] = (cs (hdS x s)).toArray := by
  rw [show (if IntKind.i64.signed = true then (-1 : Int) else 9223372036854775807) = -1 from rfl, not255 s h]
  subst hy
  have e1 : (s : Int) = ((ofN s).n : Int) := by rw [ofN_n _ (by omega)]
  have e2 : (s : Int) / 256 = ((ofN 0).n : Int) := by rw [ofN_n _ (by omega)]; omega
  have e3 : (-(s : Int) - 1) % 256 = ((ofN (255 - s)).n : Int) := by rw [ofN_n _ (by omega)]; omega
  have e4 : (-(s : Int) - 1) / 256 % 256 = ((ofN 255).n : Int) := by rw [ofN_n _ (by omega)]; omega
  have e0 : (x : Int) = ((ofN x).n : Int) := by rw [ofN_n _ hx]
  rw [e3, e4, e2]
  have k : ∀ a b c d e a' b' : Int, a = a' → b = b' → #[Value.int .u8 a, .int .u8 b, .int .u8 c, .int .u8 d, .int .u8 e] = #[Value.int .u8 a', .int .u8 b', .int .u8 c, .int .u8 d, .int .u8 e] := by
    rintro a b c d e a' b' rfl rfl
    rfl
  exact k _ _ _ _ _ _ _ e0 e1
set_option maxHeartbeats 4000000 in
theorem walk_InflateStored (w : World) (ht : Tabs w) (A : Option Addr) (n ca : Nat) (l : List F) (hl : RowIn w A n ca l) (B : Option Addr) (m cb : Nat) (cl : List Int) (hc : IRow w B m .i64 cl) (t : Nat) (htn : t < 65536) :
    Calls Tryd.prog 5 #[.slice A n ca, .slice B m cb, .int .u16 t] w fun e w' => e = .returned (.bool true) ∧ Below w.heap.size w w' := by
  have hnm := hl.row.max
  have hmm := hc.max
  unfold maxLen at hmm
  have HAL := Lib.hid (alive12_c w ht)
  by_cases h1 : (200 : Int) < (n : Int)
  · go_enter Tryd.func5, Tryd.ntmps5
    go_wp2_with (go_at_call 6; refine HAL.out.mono ?_; rintro e w1 ⟨rfl, hb1⟩)
    go_ret
    exact ⟨rfl, hb1⟩
  by_cases h2 : (6 : Int) < (m : Int)
  · go_enter Tryd.func5, Tryd.ntmps5
    go_wp2_with (go_at_call 6; refine HAL.out.mono ?_; rintro e w1 ⟨rfl, hb1⟩)
    go_ret
    exact ⟨rfl, hb1⟩
  have hn200 : n ≤ 200 := by omega
  have hm6 : m ≤ 6 := by omega
  obtain ⟨i0, hi, hz0, hz1, hz2⟩ := info_parts info_u8
  have HT := Lib.hid ht
  have HL := Lib.hid hl
  have HC := Lib.hid hc
  obtain ⟨T, hT⟩ : ∃ T, T = stoR (cutN cl n) l := ⟨_, rfl⟩
  have HTT := Lib.hid hT
  clear ht hl hc hT
  go_enter Tryd.func5, Tryd.ntmps5
  go_wp2_with fail
  refine HAL.out.mono ?_
  rintro e w1 ⟨rfl, hb1⟩
  have HB1 := Lib.hid hb1
  clear hb1
  go_wp2
  have hs1 : w.heap.size ≤ w1.heap.size := HB1.out.size
  have hsz := (HL.out.row.len)
  have HSZ := Lib.hid hsz
  clear hsz
  go_loopw [7, 8, 31] (fun av rv iv wr => ∃ (k N r c' cr : Nat) (A' R : Option Addr) (P Q : List F), k ≤ m ∧ iv = .int .i64 k ∧ av = .slice A' N c' ∧ rv = .slice R r cr ∧ Hid (wr.ownsRow w1.heap.size 5 1 (.slice A' N c') N (cs P)) ∧ Hid (RowIn w1 R r cr Q) ∧ N + r ≤ 5 * k + n ∧ r ≤ n ∧ r ≤ cr ∧ cr ≤ 9223372036854775807 ∧ Hid (P ++ stoR (cutN (cl.drop k) r) Q = T) ∧ Hid (Below w1.heap.size w1 wr)) (fun _ _ iv _ => m - (intOf iv).toNat)
  case atStart =>
    have hcm := HL.out.max
    unfold maxLen at hcm
    refine ⟨0, 0, n, 0, ca, _, A, [], l, by omega, rfl, rfl, rfl, ?_, HL.out.below HB1.out, by omega, Nat.le_refl _, HL.out.le, hcm, HTT.out.symm, (Below.refl _ _).alloc (Nat.le_refl _) _⟩
    exact World.ownsRow_made w1 #[] 0 (Nat.le_refl _) (Nat.zero_le _) rfl
  case round =>
    obtain ⟨k, N, r, c', cr, A', R, P, Q, hk, rfl, rfl, rfl, hown, hrow, hNr, hrn, hrc, hcr, hPQ, hbw⟩ := hrel
    have hsw := hbw.out.size
    by_cases hkm : k < m
    · have hkm2 : (k : Int) < (m : Int) := by omega
      obtain ⟨b1, o1, rfl, _, q1⟩ := ((HC.out.below HB1.out).below hbw.out).at_ (i := k) hkm
      obtain ⟨z, hz, ez⟩ : ∃ z : Nat, Hid (z = (gi cl k % 256).toNat) ∧ bits .and .i64 (gi cl k) 255 = (z : Int) := ⟨_, rfl, and255i _⟩
      obtain ⟨s, hs⟩ : ∃ s, s = z % (r + 1) := ⟨_, rfl⟩
      have hsr : s ≤ r := by have := Nat.mod_lt z (show 0 < r + 1 by omega); omega
      have es : ((z : Int)) % ((r : Int) + 1) = (s : Int) := by rw [hs]; simp
      have hr0 : (((r : Int) + 1) == 0) = false := by rw [beq_eq_false_iff_ne]; omega
      have hPQ2 : Hid ((P ++ hdS 0 s ++ Q.take s) ++ stoR (cutN (cl.drop (k + 1)) (r - s)) (Q.drop s) = T) := by
        have e1 : cl.drop k = gi cl k :: cl.drop (k + 1) := by
          have hkl : k < cl.length := by have := HC.out.len; omega
          rw [List.drop_eq_getElem_cons hkl]
          congr 1
          simp [gi, hkl]
        have h3 := hPQ.out
        rw [e1] at h3
        have e2 : cutN (gi cl k :: cl.drop (k + 1)) r = s :: cutN (cl.drop (k + 1)) (r - s) := by
          rw [show cutN (gi cl k :: cl.drop (k + 1)) r = (gi cl k % 256).toNat % (r + 1) :: cutN (cl.drop (k + 1)) (r - (gi cl k % 256).toNat % (r + 1)) from rfl, ← hz.out, ← hs]
        rw [e2] at h3
        unfold Hid
        rw [← h3]
        simp [stoR, List.append_assoc]
      have HS := Lib.hid hs
      generalize gi cl k = y at *
      clear hz hs
      have hscr : (s : Int) ≤ (cr : Int) := by omega
      have hsr2 : (s : Int) ≤ (r : Int) := by omega
      have HLIT := Lib.hid (lit5 0 0 s rfl (by omega) (by omega))
      go_wp2_with (first
        | (at_builtin; refine wpList_append_row i0 hi hz0 hz1 hz2 rfl _ _ rfl w1.heap.size (.slice A' N c') N (cs P) rfl (hown.out.alloc _) _ 5 5 (hdS 0 s) rfl (row_lit wr (hdS 0 s) 5 wr.heap.size rfl rfl (by show 5 ≤ maxLen; decide) _ HLIT.out 5) (by omega) (by simp; omega) ?_; intro v4 w4 hL4; obtain ⟨A4, c4, rfl, hown4, hg4, hnw4⟩ := hL4
           have HB5 : Hid (Below w1.heap.size w1 w4) := ((hbw.out.alloc hsw _).grown hg4 (by simp; omega) (fun g hg => (hown.out.lt g hg).1))
           have HO4 := Lib.hid hown4
           clear hown4 hg4 hnw4)
        | (at_builtin; refine wpList_append_row i0 hi hz0 hz1 hz2 rfl _ _ rfl w1.heap.size (.slice A4 (N + 5) c4) (N + 5) _ rfl HO4.out R s cr (Q.take s) rfl ((hrow.out.row.below HB5.out).take hsr) (by omega) HB5.out.size ?_; intro v5 w5 hL5; obtain ⟨A5, c5, rfl, hown5, hg5, hnw5⟩ := hL5))
      have HB6 : Hid (Below w1.heap.size w1 w5) := (HB5.out.grown hg5 HB5.out.size (fun g hg => (HO4.out.lt g hg).1))
      rw [← cs_append, ← cs_append] at hown5
      have HO5 := Lib.hid hown5
      have hsl := hrow.out.slice (a := s) (M := r) hsr (Nat.le_refl _)
      have e9 : (Q.drop s).take (r - s) = Q.drop s := List.take_of_length_le (by rw [List.length_drop, hrow.out.row.len]; omega)
      rw [e9] at hsl
      have HSL := Lib.hid hsl
      clear hown5 hg5 hnw5 HO4 HB5 HLIT hsl e9
      by_cases hcs : cr = s
      · have HR := Lib.hid (HSL.out.1 hcs)
        go_wp2
        go_roundw
        case rel => exact ⟨k + 1, by omega, by omega, N + 5 + s, r - s, c5, 0, A5, ⟨rfl, rfl, rfl⟩, R, ⟨rfl, rfl, rfl⟩, _, HO5.out, _, HR.out, by omega, by omega, by omega, by omega, hPQ2.out⟩
        case measure => simp [intOf]; omega
      · have HR := Lib.hid (HSL.out.2 hcs)
        go_wp2
        go_roundw
        case rel => exact ⟨k + 1, by omega, by omega, N + 5 + s, r - s, c5, cr - s, A5, ⟨rfl, rfl, rfl⟩, _, ⟨rfl, rfl, rfl⟩, _, HO5.out, _, HR.out, by omega, by omega, by omega, by omega, hPQ2.out⟩
        case measure => simp [intOf]; omega
    · obtain rfl : k = m := by omega
      have hT2 : Hid (P ++ hdS 1 r ++ Q = T) := by
        have h3 := hPQ.out
        rw [List.drop_of_length_le (by rw [HC.out.len]; omega)] at h3
        rw [show cutN [] r = [] from rfl, show stoR [] Q = hdS 1 Q.length ++ Q from rfl, hrow.out.row.len, ← List.append_assoc] at h3
        exact h3
      have HTL : Hid (T.length = N + 5 + r) := by
        unfold Hid
        rw [← hT2.out, List.length_append, List.length_append, hrow.out.row.len, own_len hown.out]
        rfl
      have HOK : Hid (allF T n = .ok l) := by
        unfold Hid
        rw [HTT.out]
        exact sto_ok (by rw [HSZ.out]; exact cutN_fits _ _) (by rw [HSZ.out]; omega) (by rw [HSZ.out]; omega)
      have HLIT := Lib.hid (lit5 1 1 r rfl (by omega) (by omega))
      go_wp2_with (first
        | (at_builtin; refine wpList_append_row i0 hi hz0 hz1 hz2 rfl _ _ rfl w1.heap.size (.slice A' N c') N (cs P) rfl (hown.out.alloc _) _ 5 5 (hdS 1 r) rfl (row_lit wr (hdS 1 r) 5 wr.heap.size rfl rfl (by show 5 ≤ maxLen; decide) _ HLIT.out 5) (by omega) (by simp; omega) ?_; intro v4 w4 hL4; obtain ⟨A4, c4, rfl, hown4, hg4, hnw4⟩ := hL4
           have HB5 : Hid (Below w1.heap.size w1 w4) := ((hbw.out.alloc hsw _).grown hg4 (by simp; omega) (fun g hg => (hown.out.lt g hg).1))
           have HO4 := Lib.hid hown4
           clear hown4 hg4 hnw4)
        | (at_builtin; refine wpList_append_row i0 hi hz0 hz1 hz2 rfl _ _ rfl w1.heap.size (.slice A4 (N + 5) c4) (N + 5) _ rfl HO4.out R r cr Q rfl (hrow.out.row.below HB5.out) (by omega) HB5.out.size ?_; intro v5 w5 hL5; obtain ⟨A5, c5, rfl, hown5, hg5, hnw5⟩ := hL5
           have HB6 : Hid (Below w1.heap.size w1 w5) := (HB5.out.grown hg5 HB5.out.size (fun g hg => (HO4.out.lt g hg).1))
           rw [← cs_append, ← cs_append, hT2.out] at hown5
           have HO5 := Lib.hid hown5
           clear hown5 hg5 hnw5 HO4 HB5 HLIT))
      obtain ⟨K, hK⟩ : ∃ K, K = N + 5 + r := ⟨_, rfl⟩
      rw [← hK] at HO5 HTL ⊢
      have hK1 : K ≤ 1000 := by omega
      have hK5 : 5 ≤ K := by omega
      clear hK
      have HB6w := Lib.hid (HB1.out.trans (HB6.out.mono hs1))
      refine (All_ok (HT.out.below HB6w.out) (Row.of_own HO5.out) (by omega) (by omega : max (n : Int) 0 = ((n : Nat) : Int)) (by omega) HOK.out).mono ?_
      rintro e w6 ⟨A6, n6, c6, rfl, hown6, hb6⟩
      obtain rfl : n6 = n := by have := own_len hown6; have := HSZ.out; omega
      have HO6 := Lib.hid (own_below HO5.out hb6)
      have HR6 := Lib.hid (Row.of_own hown6)
      have HB7w := Lib.hid (HB6w.out.trans (hb6.mono HB6w.out.size))
      have HL6 := Lib.hid (HL.out.row.below HB7w.out)
      clear hown6 hb6 HB6 HO5 HB6w
      have hg1 : Hid (gt T 1 = gt T 1) := rfl
      obtain ⟨x1, hx1⟩ : ∃ x, x = gt T 1 := ⟨_, rfl⟩
      obtain ⟨x2, hx2⟩ : ∃ x, x = gt T 2 := ⟨_, rfl⟩
      obtain ⟨a, ha⟩ : ∃ a, a = ofN (t % 256) := ⟨_, rfl⟩
      obtain ⟨b, hb⟩ : ∃ b, b = ofN (t / 256) := ⟨_, rfl⟩
      have ea : (t : Int) % 256 = (a.n : Int) := by rw [ha, ofN_n _ (by omega)]; omega
      have eb : (t : Int) / 256 = (b.n : Int) := by rw [hb, ofN_n _ (by omega)]; omega
      have hab : Hid (t ≠ 0 → ¬ (a = 0 ∧ b = 0)) := by
        rintro h0 ⟨g1, g2⟩
        rw [g1, n_zero] at ea
        rw [g2, n_zero] at eb
        omega
      obtain ⟨g, rfl, hgl, _⟩ := own_addr HO6.out (by omega)
      have HX : Hid (t ≠ 0 → allF ((T.set 1 (x1 + a)).set 2 (x2 + b)) n6 = .error 33) := fun h0 => by
        rw [hx1, hx2, HTT.out]
        exact sto_turned (by rw [HSZ.out]; exact cutN_fits _ _) (by rw [HSZ.out]; omega) a b (hab.out h0)
      have key : ∀ W : World, W.ownsRow w1.heap.size 5 1 (.slice (some ⟨g, 0, none⟩) K c5) K (cs T) → Below w.heap.size w W →
          W.cell? ⟨g, 1, none⟩ = some (.int .u8 x1.n) ∧ W.frozen? ⟨g, 1, none⟩ = false ∧ (W.setCell ⟨g, 1, none⟩ (.int .u8 (x1 + a).n)).cell? ⟨g, 2, none⟩ = some (.int .u8 x2.n) ∧ (W.setCell ⟨g, 1, none⟩ (.int .u8 (x1 + a).n)).frozen? ⟨g, 2, none⟩ = false ∧
          Row ((W.setCell ⟨g, 1, none⟩ (.int .u8 (x1 + a).n)).setCell ⟨g, 2, none⟩ (.int .u8 (x2 + b).n)) (some ⟨g, 0, none⟩) K ((T.set 1 (x1 + a)).set 2 (x2 + b)) ∧ Below w.heap.size w ((W.setCell ⟨g, 1, none⟩ (.int .u8 (x1 + a).n)).setCell ⟨g, 2, none⟩ (.int .u8 (x2 + b).n)) := fun W hW hbW => by
        have k1 := hW.cellAt 1 (by omega)
        rw [cs_at (by rw [HTL.out]; omega), ← hx1] at k1
        have s1 := (hW.stored 1 (.int .u8 (x1 + a).n)).1
        have k2 := s1.cellAt 2 (by omega)
        rw [List.getElem?_set_ne (by omega), cs_at (by rw [HTL.out]; omega), ← hx2] at k2
        have s2 := (s1.stored 2 (.int .u8 (x2 + b).n)).1
        rw [cs_set, cs_set] at s2
        exact ⟨k1, hW.frozenAt 1, k2, s1.frozenAt 2, Row.of_own s2, (hbW.setCell (by show w.heap.size ≤ g; omega) _).setCell (by show w.heap.size ≤ g; omega) _⟩
      have HKEY := Lib.hid key
      have ex1 : bits BinOp.xor IntKind.u8 (x1.n : Int) (a.n : Int) = ((x1 + a).n : Int) := bits_xor x1 a
      have ex2 : bits BinOp.xor IntKind.u8 (x2.n : Int) (b.n : Int) = ((x2 + b).n : Int) := bits_xor x2 b
      have hK1' : (1 : Int) < K := by omega
      have hK2' : (2 : Int) < K := by omega
      clear key ha hb hx1 hx2 hg1
      go_wp2_with fail
      refine (Same_c _ _ _ _ _ _ _ _ HR6.out HL6.out rfl).mono ?_
      rintro e w8 ⟨rfl, q8, rfl⟩
      obtain ⟨k1, f1, k2, f2, hrw, hbw9⟩ := HKEY.out (w6.drewN q8) HO6.out (below_drewN HB7w.out q8)
      have HRW := Lib.hid hrw
      have HBW := Lib.hid hbw9
      clear hrw hbw9
      generalize w6.drewN q8 = w7 at *
      go_wp2_with fail
      generalize (w7.setCell ⟨g, 1, none⟩ (.int .u8 (x1 + a).n)).setCell ⟨g, 2, none⟩ (.int .u8 (x2 + b).n) = w8 at *
      by_cases h0 : t = 0
      · subst h0
        refine (All_c w8 (HT.out.below HBW.out) _ K c5 _ HRW.out (by omega) n6 n6 (by omega) (by omega)).mono ?_
        rintro e w9 (⟨z, _, rfl, g2⟩ | ⟨u7, A7, n7, c7, _, rfl, _, g2⟩)
        all_goals
          have HB9 := Lib.hid (HBW.out.trans (g2.mono HBW.out.size))
          clear g2
          go_wp2
          go_ret
          exact ⟨rfl, HB9.out⟩
      · have h0' : ((t : Int) == 0) = false := by rw [beq_eq_false_iff_ne]; omega
        refine (All_no (HT.out.below HBW.out) HRW.out (by omega) (by omega : max (n6 : Int) 0 = ((n6 : Nat) : Int)) (by omega) (HX.out h0)).mono ?_
        rintro e w9 ⟨rfl, g2⟩
        have HB9 := Lib.hid (HBW.out.trans (g2.mono HBW.out.size))
        clear g2
        go_wp2
        go_ret
        exact ⟨rfl, HB9.out⟩
end Go.Proofs.YtbphbogolffanaaDoor
