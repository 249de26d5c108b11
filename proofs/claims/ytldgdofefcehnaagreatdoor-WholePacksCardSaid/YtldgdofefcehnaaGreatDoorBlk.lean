/-
  THE CONTRACTS OF block's isMatch, anyWrong; the document's Right. No conditions.
-/
import Derived.Test.YtldgdofefcehnaaGreatDoorMtr
import Derived.Deep.LoopGhost
import Derived.Deep.DeepCutAuto
import Derived.Lib.MinMax
namespace Go.Proofs.YtldgdofefcehnaaGreatDoor
open Go.RowKit
set_option maxRecDepth 1000000
set_option linter.unusedVariables false
theorem isMatchB_c (t : Tok) (w : World) : Calls Tryz.prog 68 #[tkV t] w fun e w' => e = .returned (.bool (decide (IsM t))) ∧ Below w.heap.size w w' := by
 obtain ⟨x, len, dist⟩ := t
 have hcs : (len < 3) ∨ (3 ≤ len ∧ 258 < len) ∨ (3 ≤ len ∧ len ≤ 258 ∧ dist < 1) ∨ (3 ≤ len ∧ len ≤ 258 ∧ 1 ≤ dist ∧ 32768 < dist) ∨ (3 ≤ len ∧ len ≤ 258 ∧ 1 ≤ dist ∧ dist ≤ 32768) := by omega
 unfold tkV
 dsimp only
 rcases hcs with g1 | ⟨g1, g2⟩ | ⟨g1, g2, g3⟩ | ⟨g1, g2, g3, g4⟩ | ⟨g1, g2, g3, g4⟩
 ·have hE : Hid (decide (IsM ⟨x, len, dist⟩) = false) := decide_eq_false fun h => by have := h.1; dsimp only at this; omega
  have b1 : ¬ 3 ≤ len := by omega
  go_enter Tryz.func68, Tryz.ntmps68
  go_wp2
  go_ret
  rw [hE.out]
  exact ⟨rfl, (Below.refl _ _).alloc (Nat.le_refl _) _⟩
 ·have hE : Hid (decide (IsM ⟨x, len, dist⟩) = false) := decide_eq_false fun h => by have := h.2.1; dsimp only at this; omega
  have b2 : ¬ len ≤ 258 := by omega
  go_enter Tryz.func68, Tryz.ntmps68
  go_wp2
  go_ret
  rw [hE.out]
  exact ⟨rfl, (Below.refl _ _).alloc (Nat.le_refl _) _⟩
 ·have hE : Hid (decide (IsM ⟨x, len, dist⟩) = false) := decide_eq_false fun h => by have := h.2.2.1; dsimp only at this; omega
  have b3 : ¬ 1 ≤ dist := by omega
  go_enter Tryz.func68, Tryz.ntmps68
  go_wp2
  go_ret
  rw [hE.out]
  exact ⟨rfl, (Below.refl _ _).alloc (Nat.le_refl _) _⟩
 ·have hE : Hid (decide (IsM ⟨x, len, dist⟩) = false) := decide_eq_false fun h => by have := h.2.2.2; dsimp only at this; omega
  have b4 : ¬ dist ≤ 32768 := by omega
  go_enter Tryz.func68, Tryz.ntmps68
  go_wp2
  go_ret
  rw [hE.out]
  exact ⟨rfl, (Below.refl _ _).alloc (Nat.le_refl _) _⟩
 ·have hE : Hid (decide (IsM ⟨x, len, dist⟩) = true) := decide_eq_true ⟨g1, g2, g3, g4⟩
  go_enter Tryz.func68, Tryz.ntmps68
  go_wp2
  go_ret
  rw [hE.out]
  exact ⟨rfl, (Below.refl _ _).alloc (Nat.le_refl _) _⟩
theorem wrongB_c (t : Tok) (w : World) : Calls Tryz.prog 109 #[tkV t] w fun e w' => e = .returned (.bool (decide (¬ TokOk t))) ∧ Below w.heap.size w w' := by
 have HM := Lib.hid (fun W => isMatchB_c t W)
 obtain ⟨x, len, dist⟩ := t
 unfold tkV at HM ⊢
 dsimp only at HM ⊢
 by_cases h0 : len = 0
 ·have hz : (len != 0) = false := by rw [bne_eq_false_iff_eq]; exact h0
  have hE : Hid (decide (¬ TokOk ⟨x, len, dist⟩) = false) := decide_eq_false fun h => h (.inl h0)
  clear h0
  go_enter Tryz.func109, Tryz.ntmps109
  go_wp2
  go_ret
  rw [hE.out]
  exact ⟨rfl, (Below.refl _ _).alloc (Nat.le_refl _) _⟩
 ·have hz : (len != 0) = true := by rw [bne_iff_ne]; exact h0
  have hE : Hid (decide (¬ TokOk ⟨x, len, dist⟩) = !decide (IsM ⟨x, len, dist⟩)) := by
   unfold Hid
   show decide (¬ (len = 0 ∨ IsM ⟨x, len, dist⟩)) = _
   by_cases h1 : IsM ⟨x, len, dist⟩ <;> simp [h0, h1]
  clear h0
  generalize decide (IsM ⟨x, len, dist⟩) = bb at *
  go_enter Tryz.func109, Tryz.ntmps109
  go_wp2_with fail
  refine (HM.out _).mono ?_
  rintro e w2 ⟨rfl, hb⟩
  have HB := Lib.hid (belT hb)
  clear hb
  go_wp2
  go_ret
  rw [hE.out]
  exact ⟨rfl, HB.out⟩
set_option maxHeartbeats 1000000 in
theorem IndexB_c (A : Option Addr) (n c : Nat) (T : List Tok) (w : World) (h : TRow w A n T) (hn : n ≤ 100000) :
  Calls Tryz.prog 152 #[.slice A n c, .func (.func 109) #[] #[]] w fun e w' => e = .returned (.int .i64 (if okF T < n then ((okF T : Nat) : Int) else -1)) ∧ Below w.heap.size w w' := by
 have HH := Lib.hid h
 have HLEN := Lib.hid h.len
 obtain ⟨z, hz⟩ : ∃ z : Int, z = (if okF T < n then ((okF T : Nat) : Int) else -1) := ⟨_, rfl⟩
 rw [← hz]
 have HZ := Lib.hid hz
 clear h hz
 go_enter Tryz.func152, Tryz.ntmps152
 go_wp2
 go_loopw [8] (fun iv wr => ∃ i : Nat, iv = .int .i64 i ∧ i ≤ n ∧ Hid (∀ j, j < i → TokOk (tg T j)) ∧ Hid (Below w.heap.size w wr)) (fun iv _ => n - (intOf iv).toNat)
 case atStart => exact ⟨0, rfl, by omega, fun j hj => by omega, Below.refl _ _⟩
 case round =>
  obtain ⟨i, rfl, hin, hO, hb⟩ := hrel
  by_cases hlt : i < n
  ·have hlt2 : (i : Int) < (n : Int) := by omega
   have h1 := HH.out.below hb.out
   obtain ⟨b, off, rfl, hl, c0, c1, c2⟩ := h1.at_ hlt
   have HW := Lib.hid (fun W => wrongB_c (tg T i) W)
   have hnx : Hid (TokOk (tg T i) → ∀ j, j < i + 1 → TokOk (tg T j)) := fun ho j hj => by
    rcases Nat.lt_or_ge j i with h9 | h9
    ·exact hO.out j h9
    ·obtain rfl : j = i := by omega
     exact ho
   have hend : Hid (¬ TokOk (tg T i) → okF T = i) := fun ho => okF_is hO.out (.inr ⟨by rw [HLEN.out]; exact hlt, ho⟩)
   obtain ⟨t, ht⟩ : ∃ t, t = tg T i := ⟨_, rfl⟩
   rw [← ht] at c0 c1 c2 HW hnx hend
   unfold tkV at HW
   clear h1 ht
   go_wp2_with fail
   refine (HW.out _).mono ?_
   rintro e w2 ⟨rfl, hb2⟩
   have HB2 := Lib.hid (hb.out.trans (hb2.mono hb.out.size))
   clear hb2
   by_cases hok : TokOk t
   ·have hd : decide (¬ TokOk t) = false := decide_eq_false fun h => h hok
    rw [hd]
    have hn2 := Lib.hid (hnx.out hok)
    clear hd
    go_wp2
    go_roundw
    case rel => exact ⟨i + 1, by go_num, by omega, hn2, HB2⟩
    case measure => simp [intOf]; omega
   ·have hd : decide (¬ TokOk t) = true := decide_eq_true hok
    rw [hd]
    have he := hend.out hok
    have hzi : Hid (z = (i : Int)) := by unfold Hid; rw [HZ.out, he, if_pos hlt]
    clear hd he
    go_wp2
    go_ret
    rw [hzi.out]
    exact ⟨rfl, HB2.out⟩
  ·have hlt2 : ¬ (i : Int) < (n : Int) := by omega
   have he : Hid (okF T = n) := okF_is (fun j hj => hO.out j (by omega)) (.inl HLEN.out.symm)
   have hzi : Hid (z = -1) := by unfold Hid; rw [HZ.out, he.out, if_neg (by omega)]
   clear hlt
   go_wp2
   go_ret
   rw [hzi.out]
   exact ⟨rfl, hb.out⟩
theorem ContainsB_c (A : Option Addr) (n c : Nat) (T : List Tok) (w : World) (h : TRow w A n T) (hn : n ≤ 100000) :
  Calls Tryz.prog 108 #[.slice A n c, .func (.func 109) #[] #[]] w fun e w' => e = .returned (.bool (decide (okF T < n))) ∧ Below w.heap.size w w' := by
 have HI := Lib.hid (IndexB_c A n c T w h hn)
 clear h
 obtain ⟨bb, hbb⟩ : ∃ bb, bb = decide (okF T < n) := ⟨_, rfl⟩
 rw [← hbb]
 have HBB := Lib.hid hbb
 clear hbb
 go_enter Tryz.func108, Tryz.ntmps108
 go_wp2_with fail
 refine HI.out.mono ?_
 rintro e w2 ⟨rfl, hb2⟩
 by_cases h1 : okF T < n
 ·have hE : Hid (bb = true) := by unfold Hid; rw [HBB.out]; exact decide_eq_true h1
  rw [if_pos h1]
  have h2 : (0 : Int) ≤ ((okF T : Nat) : Int) := by omega
  generalize okF T = k at *
  clear h1
  go_wp2
  go_ret
  rw [hE.out]
  exact ⟨rfl, hb2⟩
 ·have hE : Hid (bb = false) := by unfold Hid; rw [HBB.out]; exact decide_eq_false h1
  rw [if_neg h1]
  clear h1
  go_wp2
  go_ret
  rw [hE.out]
  exact ⟨rfl, hb2⟩
theorem anyWrong_c (A : Option Addr) (n c : Nat) (T : List Tok) (w : World) (h : TRow w A n T) (hn : n ≤ 100000) :
  Calls Tryz.prog 58 #[.slice A n c] w fun e w' => e = .returned (.bool (decide (okF T < n))) ∧ Below w.heap.size w w' := by
 have HI := Lib.hid (ContainsB_c A n c T w h hn)
 generalize decide (okF T < n) = bb at *
 clear h
 go_enter Tryz.func58, Tryz.ntmps58
 go_wp2_with fail
 refine HI.out.mono ?_
 rintro e w2 ⟨rfl, hb2⟩
 go_wp2
 go_ret
 exact ⟨rfl, hb2⟩
def stbF (n a : Int) : Int := ((min (max a 0) 7 + 10) / 8 * 8) - min (max a 0) 7 + 8 * (4 + min (max n 0) 65535)
theorem StoredBits_c (n a : Int) (w : World) : Calls Tryz.prog 164 #[.int .i64 n, .int .i64 a] w fun e w' => e = .returned (.int .i64 (stbF n a)) ∧ w = w' := by
 obtain ⟨x0, hx0⟩ : ∃ x0, max n 0 = x0 := ⟨_, rfl⟩
 obtain ⟨y0, hy0⟩ : ∃ y0, max a 0 = y0 := ⟨_, rfl⟩
 obtain ⟨x, hx⟩ : ∃ x : Nat, min x0 65535 = (x : Int) := ⟨(min x0 65535).toNat, by omega⟩
 obtain ⟨y, hy⟩ : ∃ y : Nat, min y0 7 = (y : Int) := ⟨(min y0 7).toNat, by omega⟩
 obtain ⟨v, hv⟩ : ∃ v : Nat, v = ((y + 10) / 8 * 8) - y + 8 * (4 + x) := ⟨_, rfl⟩
 have hx1 : x ≤ 65535 := by omega
 have hy1 : y ≤ 7 := by omega
 have hE : Hid (stbF n a = (v : Int)) := by unfold Hid stbF; rw [hx0, hy0, hx, hy]; omega
 have hV := Lib.hid hv
 clear hv
 rw [hE.out]
 go_enter Tryz.func164, Tryz.ntmps164
 go_wp2
 go_ret
 refine ⟨?_, rfl⟩
 have := hV.out
 clear hV hE hx0 hy0 hx hy
 refine congrArg (fun z : Int => Ending.returned (Value.int IntKind.i64 z)) ?_
 omega
end Go.Proofs.YtldgdofefcehnaaGreatDoor
