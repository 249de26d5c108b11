/-
  THE CONTRACTS OF crc.Update, crc.Sum AND OF THE DOCUMENT's OWN, over a table of sixteen words that lies as the program's text lays it.
-/
import Derived.Test.YtbgdoemealddpaaDoorCrc2
import Derived.Test.YtbgdoemealddpaaDoorBase
namespace Go.Proofs.YtbgdoemealddpaaDoor
open Go.RowKit
set_option linter.unusedVariables false

/-- the table -/
def Tab (w : World) : Prop := 0 < w.heap.size ∧ ∀ i, i < 16 → w.cell? ⟨0, i, none⟩ = some (.int .u32 (st 4 (ofG i)).n)
theorem Tab.below {w w' : World} {B : Nat} (h : Tab w) (hb : Below B w w') (hB : B = w.heap.size) : Tab w' := by
  subst hB
  exact ⟨by have := h.1; have := hb.size; omega, fun i hi => (hb.cell (p := ⟨0, i, none⟩) h.1).trans (h.2 i hi)⟩
theorem Tab.drewN {w : World} (h : Tab w) (q : Nat) : Tab (w.drewN q) := h
theorem Tab.alloc {w : World} (h : Tab w) (o : Obj) : Tab (w.alloc o) := ⟨by have := h.1; simp, fun i hi => (World.cell?_alloc_lt w o ⟨0, i, none⟩ h.1).trans (h.2 i hi)⟩

theorem st4_all : allLt 32 (fun i => Nat.beq (st 4 (ofG (2 ^ i))).n (2 ^ i / 16 ^^^ (st 4 (ofG (2 ^ i % 16))).n)) = true := by decide +kernel
theorem ofG_add (a b : Nat) (ha : a < 4294967296) (hb : b < 4294967296) : ofG (a ^^^ b) = ofG a + ofG b := G.ext (by rw [ofG_n _ (gxor_lt ha hb), gadd_n, ofG_n _ ha, ofG_n _ hb])
theorem st4 (a : G) : st 4 a = ofG (a.n / 16) + st 4 (ofG (a.n % 16)) := by
  refine gext_lin (fun a => st 4 a) (fun a => ofG (a.n / 16) + st 4 (ofG (a.n % 16))) (fun x y => st_add 4 x y) (fun x y => ?_) (fun i hi => ?_) a
  · have hx := x.lt
    have hy := y.lt
    have h1 : (x.n ^^^ y.n) / 16 = (x.n / 16) ^^^ (y.n / 16) := Nat.xor_div_two_pow (n := 4)
    have h2 : (x.n ^^^ y.n) % 16 = (x.n % 16) ^^^ (y.n % 16) := Nat.xor_mod_two_pow (n := 4)
    show ofG ((x + y).n / 16) + st 4 (ofG ((x + y).n % 16)) = ofG (x.n / 16) + st 4 (ofG (x.n % 16)) + (ofG (y.n / 16) + st 4 (ofG (y.n % 16)))
    rw [gadd_n, h1, h2, ofG_add _ _ (by omega) (by omega), ofG_add _ _ (by omega) (by omega), st_add]
    ac_rfl
  · refine G.ext ?_
    rw [gadd_n, ofG_pow hi, ofG_n _ (by have : 2 ^ i < 2 ^ 32 := Nat.pow_lt_pow_right (by omega) hi
                                        have h3 : (2:Nat) ^ 32 = 4294967296 := rfl
                                        omega)]
    exact Nat.eq_of_beq_eq_true (allLt_at st4_all hi)
theorem and15 (a : G) : bits BinOp.and IntKind.u32 (a.n : Int) 15 = ((a.n % 16 : Nat) : Int) := by
  rw [show (15 : Int) = ((15 : Nat) : Int) from rfl, u32_and_nat _ _ a.lt (by omega), Nat.and_two_pow_sub_one_eq_mod (n := 4)]
theorem half4 (a z : G) (h : z = st 4 (ofG (a.n % 16))) : bits BinOp.xor IntKind.u32 ((a.n : Int) / 16) (z.n : Int) = ((st 4 a).n : Int) := by
  have ha := a.lt
  rw [show ((a.n : Int) / 16) = ((a.n / 16 : Nat) : Int) by omega, u32_xor_nat _ _ (by omega) z.lt, h]
  conv => rhs; rw [st4 a]
  rw [gadd_n, ofG_n _ (by omega)]
theorem gxor_byte (a : G) (x : F) : bits BinOp.xor IntKind.u32 (a.n : Int) (x.n : Int) = ((a + wb x).n : Int) := by
  have h := gxor_G a (wb x)
  rw [wb_n] at h
  exact h
theorem gtake_succ {l : List F} {k : Nat} (h : k < l.length) : l.take (k + 1) = l.take k ++ [gt l k] := by
  rw [gt_lt h, List.take_succ_eq_append_getElem h]
set_option maxHeartbeats 1000000 in
theorem Update_c (x : G) (A : Option Addr) (n c : Nat) (l : List F) (w : World) (ht : Tab w) (h : Row w A n l) :
    Calls Tryd.prog 48 #[.int .u32 x.n, .slice A n c] w fun e w' => e = .returned (.int .u32 (upd x l).n) ∧ w = w' := by
  have hsg : IntKind.u32.signed = false := rfl
  have hm := h.max
  have h1 := not_G x
  have HL := Lib.hid h.len
  have HT := Lib.hid ht.2
  go_enter Tryd.func48, Tryd.ntmps48
  go_wp2
  go_loop [5, 12] (fun y i => ∃ (k : Nat) (y' : G), k ≤ n ∧ i = .int .i64 k ∧ y = .int .u32 y'.n ∧ Hid (y' = U (nt x) (l.take k))) (fun _ i => n - (intOf i).toNat)
  case atStart => exact ⟨0, nt x, by omega, rfl, rfl, rfl⟩
  case round =>
    obtain ⟨k, y, hk, rfl, rfl, hy⟩ := hrel
    by_cases hlt : k < n
    · obtain ⟨b, o, rfl, _, hc⟩ := h.at_ hlt
      have hkn : (k : Int) < n := by omega
      have hfin : Hid (st 4 (st 4 (y + wb (gt l k))) = U (nt x) (l.take (k + 1))) := by
        unfold Hid
        rw [gtake_succ (by rw [HL.out]; exact hlt), U_snoc, ← hy.out, st_st]
      have e0 : ((gt l k).n : Int) % 4294967296 = ((gt l k).n : Int) := by have := (gt l k).lt; omega
      have e1 := gxor_byte y (gt l k)
      generalize y + wb (gt l k) = y1 at *
      have e2 := and15 y1
      have c2 := HT.out (y1.n % 16) (by omega)
      have e3 := half4 y1 _ rfl
      generalize st 4 y1 = y2 at *
      have e4 := and15 y2
      have c4 := HT.out (y2.n % 16) (by omega)
      have e5 := half4 y2 _ rfl
      generalize st 4 y2 = y3 at *
      have i1 : y1.n % 16 < 16 := by omega
      have i2 : y2.n % 16 < 16 := by omega
      generalize y1.n % 16 = k1 at *
      generalize y2.n % 16 = k2 at *
      have i3 : (k1 : Int) < 16 := by omega
      have i4 : (k2 : Int) < 16 := by omega
      generalize st 4 (ofG k1) = c1 at *
      generalize st 4 (ofG k2) = c3 at *
      go_wp2
      go_round
      case rel => exact ⟨k + 1, y3, by omega, by go_num, rfl, hfin⟩
      case measure => simp [intOf]; omega
    · have hfin : Hid (y = U (nt x) l) := by
        unfold Hid
        rw [hy.out, List.take_of_length_le (by rw [HL.out]; omega)]
      have h2 := not_G y
      go_wp2
      go_ret
      exact ⟨ret_u32 (by rw [hfin.out]; rfl), rfl⟩
theorem Sum_c (A : Option Addr) (n c : Nat) (l : List F) (w : World) (ht : Tab w) (h : Row w A n l) :
    Calls Tryd.prog 27 #[.slice A n c] w fun e w' => e = .returned (.int .u32 (sum32 l).n) ∧ w = w' := by
  have hu : ∀ w, Tab w → Row w A n l → Calls Tryd.prog 48 #[.int .u32 0, .slice A n c] w fun e w' => e = .returned (.int .u32 (sum32 l).n) ∧ w = w' := fun w ht h => Update_c 0 A n c l w ht h
  have HU := Lib.hid hu
  clear hu
  go_enter Tryd.func27, Tryd.ntmps27
  go_wp2_with (go_at_call 48; refine (HU.out _ ht h).mono ?_; rintro e w' ⟨rfl, rfl⟩)
  go_ret
  exact ⟨rfl, rfl⟩

/-! ### The document's own -/
theorem rem2 (a : G) : ((a.n : Int) % 2) = ((a.n % 2 : Nat) : Int) := by omega
theorem s_odd (a : G) (h : a.n % 2 = 1) : bits BinOp.xor IntKind.u32 ((a.n : Int) / 2) 3988292384 = ((s a).n : Int) := by
  have ha := a.lt
  rw [s_n, show ((a.n : Int) / 2) = ((a.n / 2 : Nat) : Int) by omega, show (3988292384 : Int) = ((PG : Nat) : Int) from rfl, u32_xor_nat _ _ (by omega) (by decide)]
  unfold sN selG
  rw [if_pos h]
theorem s_even (a : G) (h : ¬ a.n % 2 = 1) : ((a.n : Int) / 2) = ((s a).n : Int) := by
  rw [s_n]
  unfold sN selG
  rw [if_neg h, Nat.xor_zero]
  omega
set_option maxHeartbeats 1000000 in
theorem RefUpdate_c (x : G) (A : Option Addr) (n c : Nat) (l : List F) (w : World) (h : Row w A n l) :
    Calls Tryd.prog 49 #[.int .u32 x.n, .slice A n c] w fun e w' => e = .returned (.int .u32 (upd x l).n) ∧ w = w' := by
  have hsg : IntKind.u32.signed = false := rfl
  have hm := h.max
  have h1 := not_G x
  have HL := Lib.hid h.len
  go_enter Tryd.func49, Tryd.ntmps49
  go_wp2
  go_loop [5, 6] (fun y i => ∃ (k : Nat) (y' : G), k ≤ n ∧ i = .int .i64 k ∧ y = .int .u32 y'.n ∧ Hid (y' = U (nt x) (l.take k))) (fun _ i => n - (intOf i).toNat)
  case atStart => exact ⟨0, nt x, by omega, rfl, rfl, rfl⟩
  case round =>
    obtain ⟨k, y, hk, rfl, rfl, hy⟩ := hrel
    by_cases hlt : k < n
    · obtain ⟨b, o, rfl, _, hc⟩ := h.at_ hlt
      have hkn : (k : Int) < n := by omega
      have hfin : Hid (st 8 (y + wb (gt l k)) = U (nt x) (l.take (k + 1))) := by
        unfold Hid
        rw [gtake_succ (by rw [HL.out]; exact hlt), U_snoc, ← hy.out]
      have e0 : ((gt l k).n : Int) % 4294967296 = ((gt l k).n : Int) := by have := (gt l k).lt; omega
      have e1 := gxor_byte y (gt l k)
      generalize y + wb (gt l k) = y1 at *
      go_wp2
      go_loop [5, 7] (fun z j => ∃ (m : Nat) (z' : G), m ≤ 8 ∧ j = .int .i64 m ∧ z = .int .u32 z'.n ∧ Hid (st (8 - m) z' = U (nt x) (l.take (k + 1)))) (fun _ j => 8 - (intOf j).toNat)
      case atStart => exact ⟨0, y1, by omega, rfl, rfl, hfin⟩
      case round =>
        clear hfin e1 e0 hy
        obtain ⟨m, z, hm8, rfl, rfl, hz⟩ := hrel
        by_cases hlt8 : m < 8
        · have hm1 : (m : Int) < 8 := by omega
          have hz2 : Hid (st (8 - (m + 1)) (s z) = U (nt x) (l.take (k + 1))) := by
            have h := hz.out
            rw [show 8 - m = (8 - (m + 1)) + 1 by omega] at h
            exact h
          by_cases ho : z.n % 2 = 1
          · have e2 := s_odd z ho
            have e3 : (((z.n : Int) % 2) == 1) = true := by rw [beq_iff_eq]; omega
            clear ho
            go_wp2
            go_round
            case rel => exact ⟨m + 1, s z, by omega, by go_num, rfl, hz2⟩
            case measure => simp [intOf]; omega
          · have e2 := s_even z ho
            have e3 : (((z.n : Int) % 2) == 1) = false := by rw [beq_eq_false_iff_ne]; omega
            clear ho
            go_wp2
            go_round
            case rel => exact ⟨m + 1, s z, by omega, by go_num, rfl, hz2⟩
            case measure => simp [intOf]; omega
        · have hz2 : Hid (z = U (nt x) (l.take (k + 1))) := by
            have h := hz.out
            rw [show 8 - m = 0 by omega] at h
            exact h
          have hm1 : ¬ (m : Int) < 8 := by omega
          go_wp2
          go_round
          case rel => exact ⟨k + 1, z, by omega, by go_num, rfl, hz2⟩
          case measure => simp [intOf]; omega
    · have hfin : Hid (y = U (nt x) l) := by
        unfold Hid
        rw [hy.out, List.take_of_length_le (by rw [HL.out]; omega)]
      have h2 := not_G y
      go_wp2
      go_ret
      exact ⟨ret_u32 (by rw [hfin.out]; rfl), rfl⟩
theorem RefSum_c (A : Option Addr) (n c : Nat) (l : List F) (w : World) (h : Row w A n l) :
    Calls Tryd.prog 32 #[.slice A n c] w fun e w' => e = .returned (.int .u32 (sum32 l).n) ∧ w = w' := by
  have hu : ∀ w, Row w A n l → Calls Tryd.prog 49 #[.int .u32 0, .slice A n c] w fun e w' => e = .returned (.int .u32 (sum32 l).n) ∧ w = w' := fun w h => RefUpdate_c 0 A n c l w h
  have HU := Lib.hid hu
  clear hu
  go_enter Tryd.func32, Tryd.ntmps32
  go_wp2_with (go_at_call 49; refine (HU.out _ h).mono ?_; rintro e w' ⟨rfl, rfl⟩)
  go_ret
  exact ⟨rfl, rfl⟩
end Go.Proofs.YtbgdoemealddpaaDoor
