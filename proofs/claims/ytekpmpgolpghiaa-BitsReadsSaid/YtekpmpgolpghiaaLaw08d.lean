/-
  LAW 08's WALK: BitsReads: it returns true, and writes nothing that was there. No conditions.
-/
import Derived.Test.YtekpmpgolpghiaaLaw08b
import Derived.Test.YtekpmpgolpghiaaRef8b
namespace Go.Proofs.Ytekpmpgolpghiaa
open Go.RowKit
set_option maxRecDepth 100000
set_option linter.unusedVariables false

theorem Blk.outOf {w w' : World} {q g : Nat} {t : TypeId} {C : Array Value} (h : Blk w g t C) (ho : Out q (q + 1) w w') (hp : g ≠ q) : Blk w' g t C := by
  have hl : g < w.heap.size := (Array.getElem?_eq_some_iff.1 h).1
  unfold Blk at h ⊢
  rw [ho.block g hl (by omega)]
  exact h
theorem numX_bits (l : List F) (a n : Nat) : numX (bitsOf l) a n = numB l a n := bsN_congr fun i _ => gbit_bitsOf l _
set_option maxHeartbeats 4000000 in
theorem walk_BitsReads (w : World) (B : Option Addr) (m cb : Nat) (l : List F) (hB : RowIn w B m cb l) (A : Option Addr) (n ca : Nat) (K V N : Nat → Int) (BA : Nat → Option Addr) (BL BC : Nat → Nat) (BB : Nat → List F) (h : OpsIn w A n K V N BA BL BC BB) :
    Calls Try.prog 7 #[.slice B m cb, .slice A n ca] w fun e w' => e = .returned (.bool true) ∧ Below w.heap.size w w' := by
  have hnm := h.nmax
  have hmm := hB.row.max
  by_cases hbad : (100 : Int) < m ∨ (60 : Int) < n
  · by_cases h100 : (100 : Int) < m
    · go_enter Try.func7, Try.ntmps7
      go_wp2_with (go_at_call 26; refine (alive08_c _).mono ?_; rintro e w1 ⟨rfl, hb1⟩)
      go_ret
      exact ⟨rfl, hb1⟩
    · have h60 : (60 : Int) < n := by omega
      clear hbad
      go_enter Try.func7, Try.ntmps7
      go_wp2_with (go_at_call 26; refine (alive08_c _).mono ?_; rintro e w1 ⟨rfl, hb1⟩)
      go_ret
      exact ⟨rfl, hb1⟩
  · have h100 : decide ((100 : Int) < (m : Int)) = false := decide_eq_false (by omega)
    have h60 : decide ((60 : Int) < (n : Int)) = false := decide_eq_false (by omega)
    have m100 : m ≤ 100 := by omega
    have n60 : n ≤ 60 := by omega
    clear hbad
    go_enter Try.func7, Try.ntmps7
    go_wp2_with (first
      | (go_at_call 26; refine (alive08_c _).mono ?_; rintro e w1 ⟨rfl, hb1⟩; have hB1 := hB.below hb1)
      | (go_at_call 39; refine (ReadB_c B m cb l _ hB1.row (by omega)).mono ?_; rintro e w2 ⟨q, A2, c2, rfl, hR2, hq2, hb2⟩; have hB2 := hB1.below hb2)
      | (go_at_call 35; refine (RefBits_c B m cb l _ hB2.row (by omega)).mono ?_; rintro e w3 ⟨g3, cE, rfl, hown3, hb3⟩; have hR3 := hR2.below hb3))
    have h1 := h.below hb1
    have hC3 := hb2.trans (hb3.mono hb2.size)
    have hE3 := (own_in hown3).row
    have hqw : w1.heap.size ≤ q := hq2
    have hgq : g3 ≠ q := by have := (hown3.lt g3 rfl).1; have := hR2.lt; omega
    have hgq2 : ∀ b o, (some ⟨g3, 0, none⟩ : Option Addr) = some ⟨b, o, none⟩ → b ≠ q := fun b o e => by injection e with e; injection e with e; omega
    clear hB hB2 h hR2 hb2 hb3 hown3 hq2
    go_loopw [7, 37] (fun x i wr => ∃ (k a : Nat), k ≤ n ∧ i = .int .i64 k ∧ x = .int .i64 a ∧ RdB wr q A2 m c2 l a ∧ Row wr (some ⟨g3, 0, none⟩) (8 * m) (bc (bitsOf l)) ∧ Below w1.heap.size w1 wr) (fun _ i _ => n - (intOf i).toNat)
    case atStart => exact ⟨0, 0, by omega, rfl, rfl, hR3, hE3, hC3⟩
    case round =>
      clear hR3 hE3 hC3
      obtain ⟨k, a, hk, rfl, rfl, hR0, hE0, hC0⟩ := hrel
      by_cases hlt : k < n
      · have hkn : (k : Int) < n := by omega
        obtain ⟨b, off, rfl, c0, c1, c2, c3⟩ := (h1.below hC0).at_ hlt
        have hsz := hC0.size
        have hale := hR0.le
        have hal : Below wr.heap.size wr (wr.alloc (.cells #[.int .i64 (K k), .int .u32 (V k), .int .i64 (N k), .slice (BA k) (BL k) (BC k)] 50)) := (Below.refl _ wr).alloc (Nat.le_refl _) _
        have hRo := hR0.below hal
        have hEo := hE0.below hal
        have hCo := hC0.alloc hsz (.cells #[.int .i64 (K k), .int .u32 (V k), .int .i64 (N k), .slice (BA k) (BL k) (BC k)] 50)
        have hob : Blk (wr.alloc (.cells #[.int .i64 (K k), .int .u32 (V k), .int .i64 (N k), .slice (BA k) (BL k) (BC k)] 50)) wr.heap.size 50 #[.int .i64 (K k), .int .u32 (V k), .int .i64 (N k), .slice (BA k) (BL k) (BC k)] := Blk.new _ _ _
        have hoq : wr.heap.size ≠ q := by have := hR0.lt; omega
        clear hR0 hE0 hC0
        rcases (show K k = 0 ∨ K k = 1 ∨ K k = 2 ∨ K k = 3 ∨ K k = 4 ∨ (K k ≠ 0 ∧ K k ≠ 1 ∧ K k ≠ 2 ∧ K k ≠ 3 ∧ K k ≠ 4) by omega) with hK | hK | hK | hK | hK | hK
        · have kb0 : (K k == 0) = true := by rw [hK]; rfl
          clear hK
          by_cases hfit : a + heldN (N k) 32 ≤ 8 * m
          · have hg := GetB_ok hRo (N k) hfit
            have hh := heldN_le (N k) 32
            have HG := Lib.hid hg
            clear hg
            go_wp2_with fail
            refine HG.out.mono ?_
            rintro e w3 ⟨rfl, hR, hO⟩
            have hE := hEo.outOf hO hgq2
            have hC := hCo.trans (hO.lowAt hqw hRo.lt)
            have d2 := (hob.outOf hO hoq).cell 2
            simp at d2
            have href := fun W (hW : Row W (some ⟨g3, 0, none⟩) (8 * m) (bc (bitsOf l))) => RefGetB_ok (some ⟨g3, 0, none⟩) (8 * m) cE a (N k) (bitsOf l) W hW (by omega) hfit
            rw [numX_bits] at href
            have HREF := Lib.hid href
            have hheld := Held32_c (N k)
            have HH := Lib.hid hheld
            clear HG href hheld hEo hCo hRo hO
            generalize heldN (N k) 32 = kk at *
            generalize numB l a kk = vv at *
            go_wp2_with (first
              | (go_at_call 41; refine (HREF.out _ hE).mono ?_; rintro e _ ⟨rfl, rfl⟩)
              | (go_at_call 18; refine (HH.out _).mono ?_; rintro e _ ⟨rfl, rfl⟩))
            go_wp2_with (go_at_call 45; refine (AtB_c hR).mono ?_; rintro e _ ⟨rfl, rfl⟩)
            go_roundw
            case rel => exact ⟨k + 1, a + kk, by omega, by go_num, by go_num, hR, hE, hC⟩
            case measure => simp [intOf]; omega
          · have hg := GetB_no hRo (N k) (by omega)
            have hh := heldN_le (N k) 32
            have HG := Lib.hid hg
            clear hg
            go_wp2_with fail
            refine HG.out.mono ?_
            rintro e w3 ⟨rfl, hR, hO⟩
            have hE := hEo.outOf hO hgq2
            have hC := hCo.trans (hO.lowAt hqw hRo.lt)
            have d2 := (hob.outOf hO hoq).cell 2
            simp at d2
            have href := fun W => RefGetB_no (some ⟨g3, 0, none⟩) (8 * m) cE a (N k) W (by omega) hale (by omega)
            have HREF := Lib.hid href
            clear HG href hEo hCo hRo hO
            go_wp2_with (go_at_call 41; refine (HREF.out _).mono ?_; rintro e _ ⟨rfl, rfl⟩)
            go_wp2_with (go_at_call 45; refine (AtB_c hR).mono ?_; rintro e _ ⟨rfl, rfl⟩)
            go_roundw
            case rel => exact ⟨k + 1, a, by omega, by go_num, rfl, hR, hE, hC⟩
            case measure => simp [intOf]; omega
        · have kb0 : (K k == 0) = false := by rw [hK]; rfl
          have kb1 : (K k == 1) = true := by rw [hK]; rfl
          clear hK
          by_cases hfit : a + heldN (N k) 32 ≤ 8 * m
          · have hg := GetB_ok hRo (N k) hfit
            have hh := heldN_le (N k) 32
            have HG := Lib.hid hg
            clear hg
            go_wp2_with fail
            refine HG.out.mono ?_
            rintro e w3 ⟨rfl, hR, hO⟩
            have hE := hEo.outOf hO hgq2
            have hC := hCo.trans (hO.lowAt hqw hRo.lt)
            have d2 := (hob.outOf hO hoq).cell 2
            simp at d2
            have href := fun W (hW : Row W (some ⟨g3, 0, none⟩) (8 * m) (bc (bitsOf l))) => RefGetB_ok (some ⟨g3, 0, none⟩) (8 * m) cE a (N k) (bitsOf l) W hW (by omega) hfit
            rw [numX_bits] at href
            have HREF := Lib.hid href
            have hheld := Held32_c (N k)
            have HH := Lib.hid hheld
            clear HG href hheld hEo hCo hRo hO
            generalize heldN (N k) 32 = kk at *
            generalize numB l a kk = vv at *
            go_wp2_with (first
              | (go_at_call 41; refine (HREF.out _ hE).mono ?_; rintro e _ ⟨rfl, rfl⟩)
              | (go_at_call 18; refine (HH.out _).mono ?_; rintro e _ ⟨rfl, rfl⟩))
            go_wp2_with (go_at_call 45; refine (AtB_c hR).mono ?_; rintro e _ ⟨rfl, rfl⟩)
            go_roundw
            case rel => exact ⟨k + 1, a + kk, by omega, by go_num, by go_num, hR, hE, hC⟩
            case measure => simp [intOf]; omega
          · have hg := GetB_no hRo (N k) (by omega)
            have hh := heldN_le (N k) 32
            have HG := Lib.hid hg
            clear hg
            go_wp2_with fail
            refine HG.out.mono ?_
            rintro e w3 ⟨rfl, hR, hO⟩
            have hE := hEo.outOf hO hgq2
            have hC := hCo.trans (hO.lowAt hqw hRo.lt)
            have d2 := (hob.outOf hO hoq).cell 2
            simp at d2
            have href := fun W => RefGetB_no (some ⟨g3, 0, none⟩) (8 * m) cE a (N k) W (by omega) hale (by omega)
            have HREF := Lib.hid href
            clear HG href hEo hCo hRo hO
            go_wp2_with (go_at_call 41; refine (HREF.out _).mono ?_; rintro e _ ⟨rfl, rfl⟩)
            go_wp2_with (go_at_call 45; refine (AtB_c hR).mono ?_; rintro e _ ⟨rfl, rfl⟩)
            go_roundw
            case rel => exact ⟨k + 1, a, by omega, by go_num, rfl, hR, hE, hC⟩
            case measure => simp [intOf]; omega
        · have kb0 : (K k == 0) = false := by rw [hK]; rfl
          have kb1 : (K k == 1) = false := by rw [hK]; rfl
          have kb2 : (K k == 2) = true := by rw [hK]; rfl
          clear hK
          by_cases hfit : a + 1 ≤ 8 * m
          · have HG := Lib.hid (BitR_ok hRo hfit)
            go_wp2_with fail
            refine HG.out.mono ?_
            rintro e w3 ⟨rfl, hR, hO⟩
            have hE := hEo.outOf hO hgq2
            have hC := hCo.trans (hO.lowAt hqw hRo.lt)
            have href := fun W (hW : Row W (some ⟨g3, 0, none⟩) (8 * m) (bc (bitsOf l))) => RefGetB_ok (some ⟨g3, 0, none⟩) (8 * m) cE a 1 (bitsOf l) W hW (by omega) hfit
            rw [numX_bits, show heldN 1 32 = 1 by decide] at href
            have HREF := Lib.hid href
            clear HG href hEo hCo hRo hO
            generalize numB l a 1 = vv at *
            go_wp2_with (go_at_call 41; refine (HREF.out _ hE).mono ?_; rintro e _ ⟨rfl, rfl⟩)
            go_wp2_with (go_at_call 45; refine (AtB_c hR).mono ?_; rintro e _ ⟨rfl, rfl⟩)
            go_roundw
            case rel => exact ⟨k + 1, a + 1, by omega, by go_num, by go_num, hR, hE, hC⟩
            case measure => simp [intOf]; omega
          · have HG := Lib.hid (BitR_no hRo (by omega))
            go_wp2_with fail
            refine HG.out.mono ?_
            rintro e w3 ⟨rfl, hR, hO⟩
            have hE := hEo.outOf hO hgq2
            have hC := hCo.trans (hO.lowAt hqw hRo.lt)
            have href := fun W => RefGetB_no (some ⟨g3, 0, none⟩) (8 * m) cE a 1 W (by omega) hale (by rw [show heldN 1 32 = 1 by decide]; omega)
            have HREF := Lib.hid href
            clear HG href hEo hCo hRo hO
            go_wp2_with (go_at_call 41; refine (HREF.out _).mono ?_; rintro e _ ⟨rfl, rfl⟩)
            go_wp2_with (go_at_call 45; refine (AtB_c hR).mono ?_; rintro e _ ⟨rfl, rfl⟩)
            go_roundw
            case rel => exact ⟨k + 1, a, by omega, by go_num, rfl, hR, hE, hC⟩
            case measure => simp [intOf]; omega
        · have kb0 : (K k == 0) = false := by rw [hK]; rfl
          have kb1 : (K k == 1) = false := by rw [hK]; rfl
          have kb2 : (K k == 2) = false := by rw [hK]; rfl
          have kb3 : (K k == 3) = true := by rw [hK]; rfl
          clear hK
          obtain ⟨u, hu⟩ : ∃ u, u = (a + 7) / 8 := ⟨_, rfl⟩
          have hu1 : ((a : Int) + 7) / 8 = (u : Int) := by omega
          have hup : ((upB a : Nat) : Int) = (u : Int) * 8 := by unfold upB; omega
          have hub : u ≤ m := by omega
          have HU := Lib.hid hu
          clear hu
          go_wp2_with fail
          refine (AlignR_c hRo).mono ?_
          rintro e w3 ⟨rfl, hR, hO⟩
          have hE := hEo.outOf hO hgq2
          have hC := hCo.trans (hO.lowAt hqw hRo.lt)
          clear hEo hCo hRo hO
          go_wp2_with (go_at_call 45; refine (AtB_c hR).mono ?_; rintro e _ ⟨rfl, rfl⟩)
          go_roundw
          case rel => exact ⟨k + 1, upB a, by omega, by go_num, by rw [hup], hR, hE, hC⟩
          case measure => simp [intOf]; omega
        · have kb0 : (K k == 0) = false := by rw [hK]; rfl
          have kb1 : (K k == 1) = false := by rw [hK]; rfl
          have kb2 : (K k == 2) = false := by rw [hK]; rfl
          have kb3 : (K k == 3) = false := by rw [hK]; rfl
          have kb4 : (K k == 4) = true := by rw [hK]; rfl
          clear hK
          obtain ⟨u, hu⟩ : ∃ u, u = (a + 7) / 8 := ⟨_, rfl⟩
          have hu1 : ((a : Int) + 7) / 8 = (u : Int) := by omega
          have hup : ((upB a : Nat) : Int) = (u : Int) * 8 := by unfold upB; omega
          have hub : u ≤ m := by omega
          have HU := Lib.hid hu
          obtain ⟨nn, hnn⟩ : ∃ nn : Nat, max (N k) 0 = (nn : Int) := ⟨(max (N k) 0).toNat, by omega⟩
          have hmx : (if N k < 0 then 0 else N k) = (nn : Int) := by split <;> omega
          by_cases hfit : u + nn ≤ m
          · have hg := BytesR_ok hRo (N k) nn hnn (by rw [← hu]; exact hfit)
            rw [← hu] at hg
            have HG := Lib.hid hg
            have hd : decide ((nn : Int) ≤ (m : Int) - (u : Int)) = true := decide_eq_true (by omega)
            have hnb : nn ≤ 200 := by omega
            clear hg hu hnn
            go_wp2_with fail
            refine HG.out.mono ?_
            rintro e w3 ⟨A3, c3', rfl, hown3, hR, hO⟩
            have hE := hEo.outOf hO hgq2
            have hC := hCo.trans (hO.lowAt hqw hRo.lt)
            have d2 := (hob.outOf hO hoq).cell 2
            simp at d2
            have hBw := hB1.below hC
            have hrow3 := (own_in hown3).row
            have hcb := hBw.le
            have hz : (u : Int) + (nn : Int) ≤ (cb : Int) := by omega
            have hz2 : (u : Int) ≤ (u : Int) + (nn : Int) := by omega
            have hsl := hBw.slice (a := u) (M := u + nn) (by omega) hfit
            rw [show u + nn - u = nn by omega] at hsl
            have HSL := Lib.hid hsl
            clear HG hEo hCo hRo hO hown3 hsl
            by_cases hcap : cb = u
            · have e1 : cb - u = 0 := by omega
              have r2 := HSL.out.1 hcap
              have HCAP := Lib.hid hcap
              clear hcap
              go_wp2_with (go_at_call 14; refine (Same_c _ _ _ _ _ _ _ _ hrow3 r2.row rfl).mono ?_; rintro e w7 ⟨rfl, q7, rfl⟩; have hR' := hR.drewN q7; have hE' := hE.drewN q7; have hC' := below_drewN hC q7)
              go_wp2_with (go_at_call 45; refine (AtB_c hR').mono ?_; rintro e _ ⟨rfl, rfl⟩)
              go_roundw
              case rel => exact ⟨k + 1, upB a + 8 * nn, by omega, by go_num, by rw [← hup]; go_num, hR', hE', hC'⟩
              case measure => simp [intOf]; omega
            · have r2 := HSL.out.2 hcap
              go_wp2_with (go_at_call 14; refine (Same_c _ _ _ _ _ _ _ _ hrow3 r2.row rfl).mono ?_; rintro e w7 ⟨rfl, q7, rfl⟩; have hR' := hR.drewN q7; have hE' := hE.drewN q7; have hC' := below_drewN hC q7)
              go_wp2_with (go_at_call 45; refine (AtB_c hR').mono ?_; rintro e _ ⟨rfl, rfl⟩)
              go_roundw
              case rel => exact ⟨k + 1, upB a + 8 * nn, by omega, by go_num, by rw [← hup]; go_num, hR', hE', hC'⟩
              case measure => simp [intOf]; omega
          · have hg := BytesR_no hRo (N k) nn hnn (by rw [← hu]; omega)
            have HG := Lib.hid hg
            have hd : decide ((nn : Int) ≤ (m : Int) - (u : Int)) = false := decide_eq_false (by omega)
            clear hg hu hnn
            go_wp2_with fail
            refine HG.out.mono ?_
            rintro e w3 ⟨rfl, hR, hO⟩
            have hE := hEo.outOf hO hgq2
            have hC := hCo.trans (hO.lowAt hqw hRo.lt)
            have d2 := (hob.outOf hO hoq).cell 2
            simp at d2
            clear HG hEo hCo hRo hO
            go_wp2_with (go_at_call 45; refine (AtB_c hR).mono ?_; rintro e _ ⟨rfl, rfl⟩)
            go_roundw
            case rel => exact ⟨k + 1, upB a, by omega, by go_num, by rw [hup], hR, hE, hC⟩
            case measure => simp [intOf]; omega
        · have kb0 : (K k == 0) = false := by rw [Bool.eq_false_iff, ne_eq, beq_iff_eq]; omega
          have kb1 : (K k == 1) = false := by rw [Bool.eq_false_iff, ne_eq, beq_iff_eq]; omega
          have kb2 : (K k == 2) = false := by rw [Bool.eq_false_iff, ne_eq, beq_iff_eq]; omega
          have kb3 : (K k == 3) = false := by rw [Bool.eq_false_iff, ne_eq, beq_iff_eq]; omega
          have kb4 : (K k == 4) = false := by rw [Bool.eq_false_iff, ne_eq, beq_iff_eq]; omega
          clear hK
          have hR := hRo
          have hE := hEo
          have hC := hCo
          clear hRo hEo hCo
          go_wp2_with (go_at_call 45; refine (AtB_c hR).mono ?_; rintro e _ ⟨rfl, rfl⟩)
          go_roundw
          case rel => exact ⟨k + 1, a, by omega, by go_num, rfl, hR, hE, hC⟩
          case measure => simp [intOf]; omega
      · obtain rfl : k = n := by omega
        go_wp2
        go_ret
        exact ⟨rfl, hb1.trans (hC0.mono hb1.size)⟩
end Go.Proofs.Ytekpmpgolpghiaa
