/-
  LOCAL HEADERS: what the document's bytes call: Pack of no stamp, rows that were just laid. No conditions.
-/
import Derived.Test.YtacllgglpjdobaaDoorLoci
import Derived.Test.YtacllgglpjdobaaDoorJoin
import Derived.Laws.Strings
namespace Go.Proofs.YtacllgglpjdobaaDoor
open Go.RowKit
set_option maxRecDepth 100000
set_option linter.unusedVariables false

theorem strB_listL (l : List F) : (strB l).toList = l.map toB := by
  rw [ByteArray.toList_eq]
  simp [strB]
theorem strB_beqL (l m : List F) : ((strB l).toList == (strB m).toList) = decide (l = m) := by
  rw [strB_listL, strB_listL]
  by_cases h : l = m
  · subst h; simp
  · rw [decide_eq_false h, beq_eq_false_iff_ne]
    exact fun e => h ((List.map_inj_right (fun x y e => e)).1 e)
theorem EqualL_c (A B : Option Addr) (n m ca cb : Nat) (a b : List F) (w : World) (ha : Row w A n a) (hb : Row w B m b) :
    Calls Tryd.prog 31 #[.slice A n ca, .slice B m cb] w fun e w' => e = .returned (.bool (decide (a = b))) ∧ w = w' := by
  have h1 := run_row_string ca ha
  have h2 := run_row_string cb hb
  have h3 := Lib.hid (strB_beqL a b)
  go_enter Tryd.func31, Tryd.ntmps31
  go_wp2
  go_ret
  exact ⟨ret_bool h3.out, rfl⟩
theorem RefPack0_c (w : World) :
    Calls Tryd.prog 25 #[stV st0] w fun e w' => e = .returned (.tuple #[.int .i64 (-1013760), .int .i64 0]) ∧ Below w.heap.size w w' := by
  unfold stV st0
  have HB := Lib.hid ((Below.refl w.heap.size w).alloc (Nat.le_refl _) (.cells #[.int .i64 0, .int .i64 0, .int .i64 0, .int .i64 0, .int .i64 0, .int .i64 0] 23))
  go_enter Tryd.func25, Tryd.ntmps25
  go_wp2
  go_quiet (fail)
  go_wp2
  go_ret2
  exact ⟨rfl, below_drewN HB.out _⟩
/-- a row of numbers that was just laid -/
theorem irow_blk {W : World} {g : Nat} {t : TypeId} {C : Array Value} {k : IntKind} (h : Blk W g t C) (zs : List Int) (n : Nat) (hC : C = (zs.map (Value.int k)).toArray) (hn : zs.length = n) (hm : n ≤ maxLen) (hw : ∀ z ∈ zs, (Lit.int k z).wf = true) : IRow W (some ⟨g, 0, none⟩) n k zs := by
  subst hn hC
  refine ⟨rfl, hm, fun _ => ⟨g, 0, rfl, h.lt, fun i hi => ?_⟩, fun i hi => ?_⟩
  · rw [Nat.zero_add, h.cell i]
    simp [gi, hi]
  · unfold gi
    rw [List.getD_eq_getElem?_getD, List.getElem?_eq_getElem hi]
    exact hw _ (List.getElem_mem _)
theorem wfU64 (k : Nat) (h : k < two64) : (Lit.int .u64 (k : Int)).wf = true := by
  unfold two64 at h
  simp [Lit.wf, IntKind.min, IntKind.max, IntKind.bits, IntKind.signed]
  omega
/-- a string's bytes in a row of their own -/
def sbC (nm : List UInt8) (W : World) : Nat := grownCap W nm.length 0 5
def sbR (nm : List UInt8) (W : World) : Array Value := bytesRow (S nm) (sbC nm W)
def sbW (nm : List UInt8) (W : World) : World := W.drew.alloc (.cells (sbR nm W) 5 ((sbR nm W).size, (sbR nm W).size + 1))
theorem sb_run (nm : List UInt8) (W : World) : (convert 9 31 (.string (S nm))).run Tryd.prog W = .ok (.slice (some ⟨W.heap.size, 0, none⟩) nm.length (sbC nm W)) (sbW nm W) := by
  have h := run_bytes_of_string (P := Tryd.prog) W 9 31 5 (S nm) Tryd.underlying9 Tryd.underlying31 Tryd.underlying5
  rw [S_size] at h
  exact h
theorem sb_size (nm : List UInt8) (W : World) : (sbW nm W).heap.size = W.heap.size + 1 := by
  unfold sbW
  simp
theorem sb_below (nm : List UInt8) (W : World) : Below W.heap.size W (sbW nm W) := (below_drewN (Below.refl W.heap.size W) 1).alloc (Nat.le_refl _) _
theorem sb_row (nm : List UInt8) (W : World) (hm : nm.length ≤ 1000000) : RowIn (sbW nm W) (some ⟨W.heap.size, 0, none⟩) nm.length (sbC nm W) (nmF nm) := by
  have hc : nm.length ≤ sbC nm W := grownCap_ge W nm.length 0 5
  have hx : sbC nm W ≤ maxLen := grownCap_le_maxLen W nm.length 0 5 (by unfold maxLen; omega)
  refine ⟨⟨rfl, by unfold maxLen; omega, fun _ => ⟨W.heap.size, 0, rfl, by rw [sb_size]; omega, fun i hi => ?_⟩⟩, hc, hx⟩
  unfold sbW
  rw [Nat.zero_add]
  show (W.drew.alloc _).cell? ⟨W.drew.heap.size, i, none⟩ = _
  rw [World.cell?_alloc_mark]
  have hi' : i < (S nm).data.size := by simpa [S] using hi
  unfold sbR
  rw [bytesRow_at _ _ _ hi']
  rw [gt_lt (show i < (nmF nm).length from hi)]
  simp [S]
  rfl
theorem below_sbW {B : Nat} {a w : World} (nm : List UInt8) (h : Below B a w) (hB : B ≤ w.heap.size) : Below B a (sbW nm w) := h.trans ((sb_below nm w).mono hB)
theorem below_drewL {B : Nat} {a w : World} (h : Below B a w) : Below B a w.drew := below_drewN h 1
/-- three rows, one behind the other -/
theorem Join3_c {w : World} {A B D : Option Addr} {a b d ca cb cd : Nat} {la lb ld : List F} (hA : RowIn w A a ca la) (hB : RowIn w B b cb lb) (hD : RowIn w D d cd ld) (h1 : a ≤ 1000000) (h2 : b ≤ 1000000) (h3 : d ≤ 1000000) (T : TypeId) (g : Nat) (hg : g = w.heap.size) :
    Calls Tryd.prog 45 #[.slice (some ⟨g, 0, none⟩) 3 3] (w.alloc (.cells #[.slice A a ca, .slice B b cb, .slice D d cd] T)) fun e w' => ∃ E N c, e = .returned (.slice E N c) ∧ w'.ownsRow w.heap.size 5 1 (.slice E N c) N (cs (la ++ (lb ++ ld))) ∧ N = a + b + d ∧ Below w.heap.size w w' := by
  subst hg
  have hM := rows_lit (w := w) (n := 3) (RA := th3 A B D) (RL := th3 a b d) (RC := th3 ca cb cd) (R := th3 la lb ld) (fun r hr => by
    rcases (show r = 0 ∨ r = 1 ∨ r = 2 by omega) with rfl | rfl | rfl
    · exact hA
    · exact hB
    · exact hD) #[.slice A a ca, .slice B b cb, .slice D d cd] (fun r hr => by
    rcases (show r = 0 ∨ r = 1 ∨ r = 2 by omega) with rfl | rfl | rfl <;> rfl) T (by unfold maxLen; omega)
  refine (Join_c hM (by omega) (fun r hr => by
    rcases (show r = 0 ∨ r = 1 ∨ r = 2 by omega) with rfl | rfl | rfl
    · show a ≤ _; omega
    · show b ≤ _; omega
    · show d ≤ _; omega)).mono ?_
  rintro e w' ⟨g, c, rfl, hown, hb⟩
  have hj : joinTo (th3 la lb ld) 3 = la ++ (lb ++ ld) := by
    show (([] ++ la) ++ lb) ++ ld = _
    rw [List.nil_append, List.append_assoc]
  have hl : lenTo (th3 a b d) 3 = a + b + d := by
    show ((0 + a) + b) + d = _
    omega
  rw [hj] at hown
  have hba := (Below.refl w.heap.size w).alloc (Nat.le_refl _) (.cells #[.slice A a ca, .slice B b cb, .slice D d cd] T)
  exact ⟨_, _, c, rfl, own_base2 hown (by simp), hl, hba.trans (hb.mono (by simp))⟩
end Go.Proofs.YtacllgglpjdobaaDoor
