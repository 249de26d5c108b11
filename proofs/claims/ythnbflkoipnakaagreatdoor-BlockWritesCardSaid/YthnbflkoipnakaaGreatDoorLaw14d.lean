/-
  LAW 14: the document's Fixed; BlockWrites. No conditions (but that the tables lie as the program's text lays them).
-/
import Derived.Test.YthnbflkoipnakaaGreatDoorLaw14b
import Derived.StillTailTactics
import Derived.Deep.RegionHeld3
namespace Go.Proofs.YthnbflkoipnakaaGreatDoor
open Go.RowKit
set_option maxRecDepth 1000000
set_option linter.unusedVariables false

/-- codes and lengths that lie: of each symbol -/
structure CdR (w : World) (GA : Option Addr) (FA : Option Addr) (k : Nat) (l : List Int) : Prop where
  code : ∀ s, s < k → ∃ b off, GA = some ⟨b, off, none⟩ ∧ b < w.heap.size ∧ w.cell? ⟨b, off + s, none⟩ = some (.int .u32 (codeN l s : Nat))
  len : ∀ s, s < k → ∃ b off, FA = some ⟨b, off, none⟩ ∧ b < w.heap.size ∧ w.cell? ⟨b, off + s, none⟩ = some (.int .i64 (lnN l s : Nat))
theorem CdR.below {w w' : World} {GA FA : Option Addr} {k : Nat} {l : List Int} (h : CdR w GA FA k l) (hb : Below w.heap.size w w') : CdR w' GA FA k l :=
  ⟨fun s hs => by
    obtain ⟨b, off, e, hl, hc⟩ := h.code s hs
    exact ⟨b, off, e, by have := hb.size; omega, (hb.cell (p := ⟨b, off + s, none⟩) hl).trans hc⟩, fun s hs => by
    obtain ⟨b, off, e, hl, hc⟩ := h.len s hs
    exact ⟨b, off, e, by have := hb.size; omega, (hb.cell (p := ⟨b, off + s, none⟩) hl).trans hc⟩⟩
theorem CdR.ofOwn {w : World} {base1 g k c : Nat} {FA : Option Addr} {l : List Int} (h1 : w.ownsRow base1 58 1 (.slice (some ⟨g, 0, none⟩) k c) k (us (codeN l) k)) (h2 : IRow w FA k .i64 l) (hr : RightL l) : CdR w (some ⟨g, 0, none⟩) FA k l :=
  ⟨fun s hs => ⟨g, 0, rfl, (h1.lt g rfl).2, by rw [Nat.zero_add, h1.cellAt s (by omega), us_at _ hs]⟩, fun s hs => by
    obtain ⟨b, off, e, hl, hc⟩ := h2.at_ hs
    refine ⟨b, off, e, hl, ?_⟩
    rw [hc, (lnN_int hr (i := s) (by rw [h2.len]; exact hs)).1]⟩
theorem symB_code {l : List Int} (s : Nat) (hs : s < l.length) (size v : Nat) : symB l ((s : Nat) : Int) size v = codeB (codeN l s) (heldN (lnN l s : Nat) 32) ++ putB v (heldN (size : Nat) 32) := by
  have h1 : 0 ≤ ((s : Nat) : Int) ∧ ((s : Nat) : Int) < l.length := by omega
  unfold symB codeAt lenAt
  rw [if_pos h1, if_pos h1, Int.toNat_natCast]
theorem symB_zero {l : List Int} (s : Nat) (hs : s < l.length) : symB l ((s : Nat) : Int) 0 0 = codeB (codeN l s) (heldN (lnN l s : Nat) 32) := by
  rw [symB_code s hs]
  show _ ++ putB 0 0 = _
  rw [show putB 0 0 = [] from rfl, List.append_nil]
theorem wrap_u32 (v : Nat) (h : v < 4294967296) : IntKind.u32.wrap (v : Int) = (v : Int) := by
  show (v : Int) % 4294967296 = _
  omega
set_option maxHeartbeats 1500000 in
theorem RFixed_c (B : Option Addr) (m cb : Nat) (X : List Bool) (w : World) (hB : Row w B m (bc X)) (hm : m ≤ 10000) (C : Option Addr) (n c : Nat) (T : List Tok) (hT : TRow w C n T) (hn : n ≤ 1000) (hok : okF T = n) (last : Bool) :
    Calls Tryz.prog 21 #[.slice B m cb, .slice C n c, .bool last] w fun e w' => ∃ A c N, e = .returned (.slice A N c) ∧ Hid (N ≤ m + 40 + 128 * n) ∧ w'.ownsRow w.heap.size 5 1 (.slice A N c) N (cs (bc (X ++ fixB T last))) ∧ Below w.heap.size w w' := by
  have HB := Lib.hid hB
  have HT := Lib.hid hT
  have HLEN := Lib.hid hT.len
  have HOK := Lib.hid hok
  have hrl := fixL_cod.right
  have hrd := fixD_cod.right
  have HRL := Lib.hid hrl
  have HRD := Lib.hid hrd
  clear hB hT hok hrl hrd
  go_enter Tryz.func21, Tryz.ntmps21
  go_wp2_with fail
  refine (RHead_c B m cb X w HB.out (by omega) last 1 (by omega)).mono ?_
  rintro e w1 ⟨A1, c1, rfl, hown1, hb1⟩
  have R1 := Lib.hid (Row.of_own hown1)
  have B1 := Lib.hid hb1
  clear hown1 hb1 HB
  go_wp2_with fail
  refine (RefFixed_c w1).mono ?_
  rintro e w2 ⟨FA, fc, FB, fd, rfl, hfa, hfb, hb2⟩
  have IA2 := Lib.hid (IRow.ofOwn hfa (by decide +kernel) (by unfold maxLen; omega))
  have IB2 := Lib.hid (IRow.ofOwn hfb (by decide +kernel) (by unfold maxLen; omega))
  have R2 := Lib.hid (R1.out.below hb2)
  have B2 := Lib.hid (B1.out.trans (hb2.mono B1.out.size))
  clear hfa hfb hb2 R1 B1
  go_wp2_with fail
  refine (RefCodes_c FA 288 fc fixL w2 IA2.out).mono ?_
  rintro e w3 (⟨h1, _⟩ | ⟨_, ga, rfl, hga, hb3⟩)
  · exact absurd (by decide +kernel) h1
  have IA3 := Lib.hid (IA2.out.below hb3)
  have IB3 := Lib.hid (IB2.out.below hb3)
  have R3 := Lib.hid (R2.out.below hb3)
  have B3 := Lib.hid (B2.out.trans (hb3.mono B2.out.size))
  have CA3 := Lib.hid (CdR.ofOwn hga IA3.out HRL.out)
  clear hga hb3 IA2 IB2 R2 B2
  go_wp2_with fail
  refine (RefCodes_c FB 32 fd fixD w3 IB3.out).mono ?_
  rintro e w4 (⟨h1, _⟩ | ⟨_, gb, rfl, hgb, hb4⟩)
  · exact absurd (by decide +kernel) h1
  have IB4 := Lib.hid (IB3.out.below hb4)
  have R4 := Lib.hid (R3.out.below hb4)
  have B4 := Lib.hid (B3.out.trans (hb4.mono B3.out.size))
  have CA4 := Lib.hid (CA3.out.below hb4)
  have CB4 := Lib.hid (CdR.ofOwn hgb IB4.out HRD.out)
  have TR4 := Lib.hid (HT.out.below B4.out)
  clear hgb hb4 IA3 IB3 R3 B3 CA3 IB4 HT
  go_wp2
  generalize (some ⟨ga, 0, none⟩ : Option Addr) = GA at *
  generalize (some ⟨gb, 0, none⟩ : Option Addr) = GB at *
  have hR0 : Hid (Row w4 A1 (m + 3) (bc (X ++ headB last 1 ++ toksB fixL fixD (T.take 0)))) := by
    unfold Hid
    rw [List.take_zero, show toksB fixL fixD [] = [] from rfl, List.append_nil]
    exact R4.out
  clear R4
  go_loopw [7, 14] (fun ov iv wr => ∃ (i N c' : Nat) (A' : Option Addr), iv = .int .i64 i ∧ i ≤ n ∧ ov = .slice A' N c' ∧ N ≤ m + 3 + 128 * i ∧ Hid (Row wr A' N (bc (X ++ headB last 1 ++ toksB fixL fixD (T.take i)))) ∧ Hid (Below w4.heap.size w4 wr)) (fun _ iv _ => n - (intOf iv).toNat)
  case atStart => exact ⟨0, m + 3, c1, A1, rfl, by omega, rfl, by omega, hR0, Below.refl _ _⟩
  case round =>
    clear hR0
    obtain ⟨i, N, c', A', rfl, hin, rfl, hN, hR, hBw⟩ := hrel
    by_cases hlt : i < n
    · have hlti : (i : Int) < (n : Int) := by omega
      obtain ⟨b, off, rfl, hbl, k0, k1, k2⟩ := (TR4.out.below hBw.out).at_ hlt
      have hst : Hid (toksB fixL fixD (T.take (i + 1)) = toksB fixL fixD (T.take i) ++ tokB fixL fixD (tg T i)) := by unfold Hid; rw [take_tg (by rw [HLEN.out]; exact hlt), toksB_snoc]
      have htk : TokOk (tg T i) := okF_at (by rw [HOK.out]; exact hlt)
      obtain ⟨t, htg⟩ : ∃ t, t = tg T i := ⟨_, rfl⟩
      rw [← htg] at k0 k1 k2 hst htk
      obtain ⟨x, ln, dist⟩ := t
      dsimp only at k0 k1 k2
      clear htg
      have hba := (Below.refl wr.heap.size wr).alloc (Nat.le_refl _) (.cells #[.int .u8 x.n, .int .i64 ln, .int .i64 dist] 53)
      have B5 := Lib.hid (hBw.out.trans (hba.mono hBw.out.size))
      have R5 := Lib.hid (hR.out.below hba)
      have CA5 := Lib.hid (CA4.out.below B5.out)
      have CB5 := Lib.hid (CB4.out.below B5.out)
      have K5 := Lib.hid (Blk.new wr 53 #[.int .u8 x.n, .int .i64 ln, .int .i64 dist])
      clear hba
      by_cases h0 : ln = 0
      · have hyb : (ln == 0) = true := by rw [h0]; rfl
        have hx288 : x.n < 288 := by have := x.lt; omega
        have hx288i : (x.n : Int) < 288 := by omega
        have hT0 : Hid (tokB fixL fixD ⟨x, ln, dist⟩ = codeB (codeN fixL x.n) (heldN (lnN fixL x.n : Nat) 32)) := by
          unfold Hid tokB
          rw [if_pos (by exact h0)]
          exact symB_zero x.n hx288
        obtain ⟨b1, o1, rfl, hb1, q1⟩ := CA5.out.code x.n hx288
        obtain ⟨b2, o2, rfl, hb2, q2⟩ := CA5.out.len x.n hx288
        have hcl : codeN fixL x.n < 4294967296 := by
          have := codeAt_lt (l := fixL) (by decide +kernel) (x.n : Int)
          unfold codeAt at this
          rwa [if_pos ⟨by omega, by show (x.n : Int) < 288; omega⟩, Int.toNat_natCast] at this
        have hk32 := heldN_le (lnN fixL x.n : Nat) 32
        obtain ⟨⟨d0, d1, d2⟩, -⟩ := K5.out.trip
        generalize codeN fixL x.n = cd at *
        generalize lnN fixL x.n = lv at *
        clear h0
        go_wp2
        clear k0 k1 k2
        generalize wr.alloc (.cells #[.int .u8 x.n, .int .i64 ln, .int .i64 dist] 53) = w5 at *
        go_still_tail 11, (by kernel_rfl)
        go_wp2_with fail
        refine (RefCodeB_c A' N c' _ (w5.drewN 1) (R5.out.drewN 1) (by omega) cd hcl (lv : Int)).mono ?_
        rintro e w6 ⟨A6, c6, rfl, hown6, hb6⟩
        rw [List.append_assoc, ← hT0.out, ← hst.out] at hown6
        have R6 := Lib.hid (Row.of_own hown6)
        have B6 : Hid (Below w4.heap.size w4 w6) := (below_drewN B5.out 1).trans (hb6.mono B5.out.size)
        clear hown6 hb6
        go_wp2
        go_roundw
        case rel => exact ⟨i + 1, N + heldN (lv : Int) 32, c6, A6, by go_num, by omega, rfl, by omega, R6, B6⟩
        case measure => simp [intOf]; omega
      · have hyb : (ln == 0) = false := by rw [beq_eq_false_iff_ne]; exact h0
        have him : IsM ⟨x, ln, dist⟩ := htk.resolve_left h0
        obtain ⟨kk, hkk, hkc, hkx⟩ := len_ok (n := ln) ⟨him.1, him.2.1⟩
        obtain ⟨kd, hkd, hkdc, hkdx⟩ := dst_ok (n := dist) ⟨him.2.2.1, him.2.2.2⟩
        have hx288 : lenC ln < 288 := by omega
        have hd32 : dstC dist < 32 := by omega
        have hT0 : Hid (tokB fixL fixD ⟨x, ln, dist⟩ = (codeB (codeN fixL (lenC ln)) (heldN (lnN fixL (lenC ln) : Nat) 32) ++ putB (lenV ln) (heldN (lenX ln : Nat) 32)) ++ (codeB (codeN fixD (dstC dist)) (heldN (lnN fixD (dstC dist) : Nat) 32) ++ putB (dstV dist) (heldN (dstX dist : Nat) 32))) := by
          unfold Hid tokB
          rw [if_neg (by exact h0), symB_code (l := fixL) (lenC ln) hx288, symB_code (l := fixD) (dstC dist) hd32]
        have hv1 := (lenV_lt ln).1
        have hv2 := (lenV_lt dist).2
        have hcl : codeN fixL (lenC ln) < 4294967296 := by
          have := codeAt_lt (l := fixL) (by decide +kernel) (lenC ln : Int)
          unfold codeAt at this
          rwa [if_pos ⟨by omega, by show (lenC ln : Int) < 288; omega⟩, Int.toNat_natCast] at this
        have hcd : codeN fixD (dstC dist) < 4294967296 := by
          have := codeAt_lt (l := fixD) (by decide +kernel) (dstC dist : Int)
          unfold codeAt at this
          rwa [if_pos ⟨by omega, by show (dstC dist : Int) < 32; omega⟩, Int.toNat_natCast] at this
        have HLC := Lib.hid (fun W => RefLength_c ln W)
        have HDC := Lib.hid (fun W => RefDist_c dist W)
        obtain ⟨⟨d0, d1, d2⟩, -⟩ := K5.out.trip
        clear hkx hkdx him hkc hkdc hkk hkd
        generalize lenC ln = e1 at *
        generalize lenX ln = s1 at *
        generalize lenV ln = v1 at *
        generalize dstC dist = e2 at *
        generalize dstX dist = s2 at *
        generalize dstV dist = v2 at *
        have hk1 := heldN_le (lnN fixL e1 : Nat) 32
        have hk2 := heldN_le (s1 : Nat) 32
        have hk3 := heldN_le (lnN fixD e2 : Nat) 32
        have hk4 := heldN_le (s2 : Nat) 32
        obtain ⟨cd1, hcd1⟩ : ∃ cd, cd = codeN fixL e1 := ⟨_, rfl⟩
        obtain ⟨lv1, hlv1⟩ : ∃ cd, cd = lnN fixL e1 := ⟨_, rfl⟩
        obtain ⟨cd2, hcd2⟩ : ∃ cd, cd = codeN fixD e2 := ⟨_, rfl⟩
        obtain ⟨lv2, hlv2⟩ : ∃ cd, cd = lnN fixD e2 := ⟨_, rfl⟩
        have HQ1 : Hid (∀ W, Below w4.heap.size w4 W → (∃ b off, GA = some ⟨b, off, none⟩ ∧ b < W.heap.size ∧ W.cell? ⟨b, off + e1, none⟩ = some (.int .u32 (cd1 : Nat))) ∧ (∃ b off, FA = some ⟨b, off, none⟩ ∧ b < W.heap.size ∧ W.cell? ⟨b, off + e1, none⟩ = some (.int .i64 (lv1 : Nat)))) := fun W hb => by
          rw [hcd1, hlv1]; exact ⟨(CA4.out.below hb).code e1 hx288, (CA4.out.below hb).len e1 hx288⟩
        have HQ2 : Hid (∀ W, Below w4.heap.size w4 W → (∃ b off, GB = some ⟨b, off, none⟩ ∧ b < W.heap.size ∧ W.cell? ⟨b, off + e2, none⟩ = some (.int .u32 (cd2 : Nat))) ∧ (∃ b off, FB = some ⟨b, off, none⟩ ∧ b < W.heap.size ∧ W.cell? ⟨b, off + e2, none⟩ = some (.int .i64 (lv2 : Nat)))) := fun W hb => by
          rw [hcd2, hlv2]; exact ⟨(CB4.out.below hb).code e2 hd32, (CB4.out.below hb).len e2 hd32⟩
        rw [← hcd1, ← hlv1, ← hcd2, ← hlv2] at hT0
        rw [← hcd1] at hcl
        rw [← hcd2] at hcd
        rw [← hlv1] at hk1
        rw [← hlv2] at hk3
        have hw1 := wrap_u32 v1 hv1
        have hw2 := wrap_u32 v2 hv2
        have he1 : (e1 : Int) < 288 := by omega
        have he2 : (e2 : Int) < 32 := by omega
        clear hcd1 hlv1 hcd2 hlv2 h0 CA5 CB5
        go_wp2_with fail
        clear k0 k1 k2
        generalize wr.alloc (.cells #[.int .u8 x.n, .int .i64 ln, .int .i64 dist] 53) = w5 at *
        refine (HLC.out w5).mono ?_
        rintro e _ ⟨rfl, rfl⟩
        obtain ⟨⟨b1, o1, rfl, hb1, q1⟩, b2, o2, rfl, hb2, q2⟩ := HQ1.out w5 B5.out
        go_wp2
        go_region_held3 (fun w' => w'.cell? ⟨b1, o1 + e1, none⟩ = some (.int .u32 (cd1 : Nat)) ∧ w'.cell? ⟨b2, o2 + e1, none⟩ = some (.int .i64 (lv1 : Nat))) (first
          | go_keep
          | (go_split_ands
             exact ⟨(hb6.cell (p := ⟨b1, o1 + e1, none⟩) (by exact hb1)).trans (by assumption), (hb6.cell (p := ⟨b2, o2 + e1, none⟩) (by exact hb2)).trans (by assumption)⟩)
          | (go_split_ands
             exact ⟨(hb7.cell (p := ⟨b1, o1 + e1, none⟩) (by show b1 < _; have := hb6.size; simp at this; omega)).trans (by assumption), (hb7.cell (p := ⟨b2, o2 + e1, none⟩) (by show b2 < _; have := hb6.size; simp at this; omega)).trans (by assumption)⟩))
          ((first
            | (go_at_call 47; refine (RefCodeB_c A' N c' _ _ (by exact R5.out.drewN 1) (by omega) cd1 hcl (lv1 : Int)).mono ?_; rintro e w6 ⟨A6, c6, rfl, hown6, hb6⟩)
            | (go_at_call 28; (try rw [hw1]); refine (RefPutB_c A6 _ c6 _ _ (by exact Row.of_own hown6) (by omega) v1 hv1 (s1 : Int)).mono ?_; rintro e w7 ⟨A7, c7, rfl, hown7, hb7⟩)))
        have hz5 : wr.heap.size < w5.heap.size := K5.out.lt
        have D2 : w7.cell? ⟨wr.heap.size, 2, none⟩ = some (.int .i64 dist) := (hb7.cell (p := ⟨wr.heap.size, 2, none⟩) (by show wr.heap.size < _; have := hb6.size; simp at this; omega)).trans ((hb6.cell (p := ⟨wr.heap.size, 2, none⟩) (by exact hz5)).trans d2)
        have R7 := Lib.hid (Row.of_own hown7)
        have B7 : Hid (Below w4.heap.size w4 w7) := (below_drewN B5.out 1).trans ((hb6.trans (hb7.mono hb6.size)).mono B5.out.size)
        clear hown6 hb6 hown7 hb7 d0 d1 d2 q1 q2 hb1 hb2 hz5 R5 B5 K5 HLC HQ1
        go_wp2_with fail
        refine (HDC.out w7).mono ?_
        rintro e _ ⟨rfl, rfl⟩
        obtain ⟨⟨b3, o3, rfl, hb3, q3⟩, b4, o4, rfl, hb4, q4⟩ := HQ2.out w7 B7.out
        clear D2 HDC HQ2
        go_wp2
        go_region_held3 (fun w' => w'.cell? ⟨b3, o3 + e2, none⟩ = some (.int .u32 (cd2 : Nat)) ∧ w'.cell? ⟨b4, o4 + e2, none⟩ = some (.int .i64 (lv2 : Nat))) (first
          | go_keep
          | (go_split_ands
             exact ⟨(hb8.cell (p := ⟨b3, o3 + e2, none⟩) (by exact hb3)).trans (by assumption), (hb8.cell (p := ⟨b4, o4 + e2, none⟩) (by exact hb4)).trans (by assumption)⟩)
          | (go_split_ands
             exact ⟨(hb9.cell (p := ⟨b3, o3 + e2, none⟩) (by show b3 < _; have := hb8.size; simp at this; omega)).trans (by assumption), (hb9.cell (p := ⟨b4, o4 + e2, none⟩) (by show b4 < _; have := hb8.size; simp at this; omega)).trans (by assumption)⟩))
          ((first
            | (go_at_call 47; refine (RefCodeB_c A7 _ c7 _ _ (by exact R7.out.drewN 1) (by omega) cd2 hcd (lv2 : Int)).mono ?_; rintro e w8 ⟨A8, c8, rfl, hown8, hb8⟩)
            | (go_at_call 28; (try rw [hw2]); refine (RefPutB_c A8 _ c8 _ _ (by exact Row.of_own hown8) (by omega) v2 hv2 (s2 : Int)).mono ?_; rintro e w9 ⟨A9, c9, rfl, hown9, hb9⟩)))
        rw [List.append_assoc, List.append_assoc, List.append_assoc, ← List.append_assoc (codeB cd1 _), ← hT0.out, List.append_assoc (X ++ headB last 1), ← hst.out] at hown9
        have R9 := Lib.hid (Row.of_own hown9)
        have B9 : Hid (Below w4.heap.size w4 w9) := (below_drewN B7.out 1).trans ((hb8.trans (hb9.mono hb8.size)).mono B7.out.size)
        clear hown8 hb8 hown9 hb9 q3 q4 hb3 hb4
        go_wp2
        go_roundw
        case rel => exact ⟨i + 1, _, c9, A9, by go_num, by omega, rfl, by omega, R9, B9⟩
        case measure => simp [intOf]; omega
    · have hlti : ¬ (i : Int) < (n : Int) := by omega
      obtain rfl : i = n := by omega
      have hTT : T.take i = T := by rw [← HLEN.out]; exact List.take_length
      rw [hTT] at hR
      have hE : Hid (symB fixL 256 0 0 = codeB (codeN fixL 256) (heldN (lnN fixL 256 : Nat) 32)) := symB_zero 256 (by decide +kernel)
      obtain ⟨b1, o1, rfl, hb1, q1⟩ := (CA4.out.below hBw.out).code 256 (by omega)
      obtain ⟨b2, o2, rfl, hb2, q2⟩ := (CA4.out.below hBw.out).len 256 (by omega)
      have hcl : codeN fixL 256 < 4294967296 := by decide +kernel
      generalize codeN fixL 256 = cd at *
      generalize lnN fixL 256 = lv at *
      go_wp2
      go_still_tail 7, (by kernel_rfl)
      go_wp2_with fail
      refine (RefCodeB_c A' N c' _ (wr.drewN 1) (hR.out.drewN 1) (by omega) cd hcl (lv : Int)).mono ?_
      rintro e w6 ⟨A6, c6, rfl, hown6, hb6⟩
      rw [List.append_assoc, List.append_assoc, ← hE.out, show headB last 1 ++ (toksB fixL fixD T ++ symB fixL 256 0 0) = fixB T last from rfl] at hown6
      go_wp2
      go_ret
      exact ⟨A6, c6, _, rfl, (by unfold Hid; have := heldN_le (lv : Int) 32; omega), own_base hown6 (by have h1 := B4.out.size; have h2 := hBw.out.size; simp; omega), B4.out.trans (((below_drewN hBw.out 1).trans (hb6.mono hBw.out.size)).mono B4.out.size)⟩
end Go.Proofs.YthnbflkoipnakaaGreatDoor
