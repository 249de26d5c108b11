/-
  WHAT MOST TEXTS SHARE: rows of bytes that are laid, copied, held against each other; blocks; bytes as strings. No conditions.
-/
import Derived.Test.YtbphbogolffanaaDoorProg
import Derived.Test.YtbphbogolffanaaDoorRow
import Derived.Test.YtbphbogolffanaaDoorPl
import Derived.Test.YtbphbogolffanaaDoorFrame
import Derived.WalkKit
import Derived.Calls
import Derived.Below
import Derived.Lib.Hide
import Derived.Lib.SliceRun
import Derived.Laws.BitsAllLaws
import Derived.Laws.IdiomStrings
import Derived.Laws.ResultCell
import Derived.Laws.CopyOwn
import Derived.Laws.AppendOwnNone
import Derived.Deep.WholeRow
import Derived.Deep.QuietTactic
import Derived.Deep.RegionWith
import Derived.Deep.RegionHeld3
import Derived.Deep.AppendLies
import Derived.Deep.Heap
import Derived.BigQuiet
import Derived.ProofKit
namespace Go.Proofs.YtbphbogolffanaaDoor
open Go.RowKit
set_option maxRecDepth 100000
set_option linter.unusedVariables false

theorem ret_u8 {a b : Int} (h : a = b) : Ending.returned (.int .u8 a) = .returned (.int .u8 b) := by rw [h]
theorem val_u8 {a b : Int} (h : a = b) : Value.int .u8 a = .int .u8 b := by rw [h]
theorem ret_i64 {a b : Int} (h : a = b) : Ending.returned (.int .i64 a) = .returned (.int .i64 b) := by rw [h]
theorem i64_and_nat (a b : Nat) (ha : a < 9223372036854775808) (hb : b < 9223372036854775808) : bits .and .i64 (a : Int) (b : Int) = ((a &&& b : Nat) : Int) := by
  have ofI : ∀ c : Nat, c < 9223372036854775808 → (BitVec.ofInt 64 (c : Int)).toNat = c := fun c hc => by
    rw [BitVec.ofInt_natCast, BitVec.toNat_ofNat]; exact Nat.mod_eq_of_lt (by omega)
  have hx : a &&& b < 2 ^ 63 := Nat.and_lt_two_pow _ (by omega)
  show IntKind.i64.wrap ((BitVec.ofInt 64 (a : Int) &&& BitVec.ofInt 64 (b : Int)).toNat : Int) = _
  rw [BitVec.toNat_and, ofI a ha, ofI b hb, IntKind.wrap_i64]
  omega
theorem n_beq (a : F) : ((a.n : Int) == 0) = decide (a = 0) := by
  by_cases h : a = 0
  · subst h; rfl
  · have h1 : a.n ≠ 0 := fun e => h (n_eq_zero.1 e)
    rw [decide_eq_false h, beq_eq_false_iff_ne]
    omega
theorem n_beq2 (a b : F) : ((a.n : Int) == (b.n : Int)) = decide (a = b) := by
  by_cases h : a = b
  · subst h; simp
  · have h1 : a.n ≠ b.n := fun e => h (F.ext e)
    rw [decide_eq_false h, beq_eq_false_iff_ne]
    omega
theorem i64_xor_nat (a b : Nat) (ha : a < 9223372036854775808) (hb : b < 9223372036854775808) : bits .xor .i64 (a : Int) (b : Int) = ((a ^^^ b : Nat) : Int) := by
  have ofI : ∀ c : Nat, c < 9223372036854775808 → (BitVec.ofInt 64 (c : Int)).toNat = c := fun c hc => by
    rw [BitVec.ofInt_natCast, BitVec.toNat_ofNat]; exact Nat.mod_eq_of_lt (by omega)
  have hx : a ^^^ b < 2 ^ 63 := Nat.xor_lt_two_pow (by omega) (by omega)
  show IntKind.i64.wrap ((BitVec.ofInt 64 (a : Int) ^^^ BitVec.ofInt 64 (b : Int)).toNat : Int) = _
  rw [BitVec.toNat_xor, ofI a ha, ofI b hb, IntKind.wrap_i64]
  omega
theorem val_i64 {a b : Int} (h : a = b) : Value.int .i64 a = .int .i64 b := by rw [h]
theorem n_beq1 (a : F) : ((a.n : Int) == 1) = decide (a = 1) := n_beq2 a 1
/-- so far as a row is filled: its first k, and noughts -/
def part (l : List F) (k : Nat) : List F := l.take k ++ List.replicate (l.length - k) 0
theorem part_zero (l : List F) : part l 0 = List.replicate l.length 0 := by simp [part]
theorem part_all (l : List F) : part l l.length = l := by simp [part]
theorem part_length (l : List F) (k : Nat) : (part l k).length = l.length := by simp [part]; omega
theorem part_set (l : List F) (k : Nat) (h : k < l.length) : (part l k).set k (gt l k) = part l (k + 1) := by
  have h1 : (l.take k).length = k := by simp; omega
  unfold part
  rw [List.set_append_right _ _ (by omega), h1, Nat.sub_self, show l.length - k = (l.length - (k + 1)) + 1 by omega, List.replicate_succ, List.set_cons_zero, gt_lt h,
    List.take_succ_eq_append_getElem h, List.append_assoc]
  rfl
theorem cs_set (l : List F) (k : Nat) (x : F) : (cs l).set k (.int .u8 x.n) = cs (l.set k x) := by simp [cs, List.map_set]
theorem cs_replicate (n : Nat) : cs (List.replicate n 0) = List.replicate n (.int .u8 0) := by simp [cs, n_zero]
theorem info_u8 : (Tryd.prog.info? 5).map (fun i => (i.zero, i.size, i.bytes)) = some (some (.int .u8 0), 1, 1) := by kernel_rfl
/-- block g is just these cells, and may be written -/
def Blk (w : World) (g : Nat) (t : TypeId) (C : Array Value) : Prop := w.heap[g]? = some (.cells C t (0, 0))
section
variable {w w' : World} {g : Nat} {t : TypeId} {C : Array Value}
theorem Blk.cell (h : Blk w g t C) (i : Nat) : w.cell? ⟨g, i, none⟩ = C[i]? := cell_of_row w g i C t (0, 0) h
theorem Blk.frozen (h : Blk w g t C) (i : Nat) : w.frozen? ⟨g, i, none⟩ = false := by
  unfold Blk at h
  simp [World.frozen?, h]
theorem Blk.new (w : World) (t : TypeId) (C : Array Value) : Blk (w.alloc (.cells C t)) w.heap.size t C := heap_alloc_new w _
theorem Blk.set_ (h : Blk w g t C) (i : Nat) (u : Value) : Blk (w.setCell ⟨g, i, none⟩ u) g t (C.setIfInBounds i u) := by
  unfold Blk at h ⊢
  simp [World.setCell, Array.getElem?_modify, h]
theorem Blk.below (h : Blk w g t C) (hg : g < w.heap.size) (hb : Below w.heap.size w w') : Blk w' g t C := by
  unfold Blk at h ⊢
  rw [hb.block g hg]
  exact h
end
theorem Blk.setRow {w : World} {g : Nat} {t : TypeId} {C : Array Value} (h : Blk w g t C) (C' : Array Value) : Blk (w.setRow g C') g t C' := by
  unfold Blk at h ⊢
  simp [World.setRow, Array.getElem?_modify, h]
theorem gt_set' (l : List F) (k i : Nat) (x : F) (hk : k < l.length) : gt (l.set k x) i = if i = k then x else gt l i := by
  unfold gt
  rw [List.getD_eq_getElem?_getD, List.getElem?_set, List.getD_eq_getElem?_getD]
  by_cases h : i = k
  · subst h; simp [hk]
  · rw [if_neg (fun e => h e.symm), if_neg h]
theorem Blk.kept {w w' : World} {g : Nat} {t : TypeId} {C : Array Value} (h : Blk w g t C) {row : Option Nat} (hg : w.grownBy w' row) (hne : g < w.heap.size ∧ row ≠ some g) : Blk w' g t C := by
  unfold Blk at h ⊢
  rw [hg.block g hne.1 (fun e => hne.2 e.symm)]
  exact h
theorem Blk.setOther {w : World} {g : Nat} {t : TypeId} {C : Array Value} (h : Blk w g t C) {a : Addr} (hne : g ≠ a.block) (v : Value) : Blk (w.setCell a v) g t C := by
  unfold Blk at h ⊢
  rw [Go.Deep.blk_setCell_other _ _ _ _ hne]
  exact h
/-- a row's bytes as a string -/
def strB (l : List F) : ByteArray := ⟨(l.map toB).toArray⟩
theorem run_row_string {w : World} {A : Option Addr} {n : Nat} {l : List F} (c : Nat) (h : Row w A n l) :
    (convert 22 9 (.slice A n c)).run Tryd.prog w = .ok (.string (strB l)) w := by
  cases A with
  | none =>
    have hn : n = 0 := by
      rcases Nat.eq_zero_or_pos n with h0 | h0
      · exact h0
      · obtain ⟨_, _, e, _⟩ := h.at_ h0
        cases e
    subst hn
    have hl : l = [] := List.eq_nil_of_length_eq_zero h.len
    subst hl
    rw [run_convert_bytes_string w _ _ _ none 0 c Tryd.underlying22 Tryd.underlying5 Tryd.underlying9]
    simp [Conv.bytesToString, strB, Sem.run_pure, ByteArray.empty, ByteArray.emptyWithCapacity]
    rfl
  | some ad =>
    have hl : n = (l.map toB).length := by rw [List.length_map, h.len]
    rw [hl]
    refine run_convert_bytes_back w _ _ _ ad c (l.map toB) Tryd.underlying22 Tryd.underlying5 Tryd.underlying9 (fun j hj => ?_)
    rw [List.length_map] at hj
    have hjn : j < n := by have := h.len; omega
    obtain ⟨b, off, e, _, hc⟩ := h.at_ hjn
    injection e with e
    subst e
    have e2 : (⟨b, off, none⟩ : Addr).add j = ⟨b, off + j, none⟩ := by unfold Addr.add; split <;> simp_all
    rw [e2, hc, gt_lt hj]
    simp [F.n, toB]
theorem strB_inj {l m : List F} (h : strB l = strB m) : l = m := by
  unfold strB at h
  injection h with h
  have h2 := congrArg Array.toList h
  simp only [] at h2
  exact (List.map_inj_right (fun x y e => e)).1 h2
/-- a row that was just laid -/
theorem row_lit (w : World) (l : List F) (n g : Nat) (hn : n = l.length) (hg : g = w.heap.size) (hl : l.length ≤ maxLen) (C : Array Value) (hC : C = (cs l).toArray) (t : TypeId) : Row (w.alloc (.cells C t)) (some ⟨g, 0, none⟩) n l := by
  subst hn hg hC
  refine ⟨rfl, hl, fun _ => ⟨w.heap.size, 0, rfl, by simp, fun i hi => ?_⟩⟩
  have h := heap_alloc_new w (.cells (cs l).toArray t)
  rw [Nat.zero_add, cell_of_row _ _ i _ t (0, 0) h]
  simpa using cs_at hi
theorem bits_xor (x y : F) : bits BinOp.xor IntKind.u8 (x.n : Int) (y.n : Int) = ((x + y).n : Int) := by
  rw [u8_xor_nat _ _ x.lt y.lt, add_n]
theorem own_shape {w : World} {base n : Nat} {e : TypeId} {v : Value} {xs : List Value} (h : w.ownsRow base e 1 v n xs) : ∃ A c, v = .slice A n c ∧ (n ≤ c ∧ c ≤ maxLen) := by
  rcases h.2 with ⟨rfl, rfl⟩ | ⟨g, cap, _, rfl, _, _, h1, h2, _⟩
  · exact ⟨none, 0, rfl, Nat.le_refl _, by unfold maxLen; omega⟩
  · exact ⟨_, cap, rfl, h1, h2⟩
theorem Row.none_nil {w : World} {n : Nat} {l : List F} (h : Row w none n l) : n = 0 ∧ l = [] := by
  have hn : n = 0 := by
    rcases Nat.eq_zero_or_pos n with h0 | h0
    · exact h0
    · obtain ⟨_, _, e, _⟩ := h.at_ h0
      cases e
  subst hn
  exact ⟨rfl, List.eq_nil_of_length_eq_zero h.len⟩
theorem Row.cells {w : World} {ad : Addr} {n : Nat} {l : List F} (h : Row w (some ad) n l) : ∀ j u, (cs l)[j]? = some u → w.cell? (ad.add j) = some u := by
  intro j u hu
  have hj : j < (cs l).length := (List.getElem?_eq_some_iff.1 hu).1
  rw [cs_length] at hj
  have hjn : j < n := by have := h.len; omega
  obtain ⟨b, off, e, _, hc⟩ := h.at_ hjn
  injection e with e
  subst e
  have e2 : (⟨b, off, none⟩ : Addr).add j = ⟨b, off + j, none⟩ := by unfold Addr.add; split <;> simp_all
  rw [cs_at hj] at hu
  rw [e2, hc]
  exact hu
set_option maxHeartbeats 400000 in
theorem Clone_c (A : Option Addr) (n c : Nat) (l : List F) (w : World) (h : Row w A n l) (hn : n ≤ 140737488355328) :
    Calls Tryd.prog 22 #[.slice A n c] w fun e w' => ∃ A' c', e = .returned (.slice A' n c') ∧ w'.ownsRow w.heap.size 5 1 (.slice A' n c') n (cs l) ∧ Below w.heap.size w w' := by
  obtain ⟨i0, hi, hz0, hz1, hz2⟩ := info_parts info_u8
  have q22 : ∀ (w : World) (a : Option Addr) (n c n' c' : Nat), (binOp .eql 22 (.slice a n c) (.slice none n' c')).run Tryd.prog w = .ok (.bool a.isNone) w := fun w a n c n' c' => Lib.run_eql_slice_nil w _ _ a n c n' c' Tryd.underlying22
  cases A with
  | none =>
    obtain ⟨rfl, rfl⟩ := h.none_nil
    go_enter Tryd.func22, Tryd.ntmps22
    go_wp2
    go_ret
    exact ⟨none, 0, rfl, World.ownsRow_nil _ _ _ _, Below.refl _ _⟩
  | some ad =>
    have hl := h.len
    have hm := h.max
    have h1 := (h.alloc (.cells #[] 5)).cells
    have HC := Lib.hid h1
    clear h1
    have HL := Lib.hid hl
    clear hl
    go_enter Tryd.func22, Tryd.ntmps22
    go_wp2_with (at_builtin; refine wpList_append_own _ rfl _ _ 22 rfl w.heap.size 5 i0 (.int .u8 0) 1 1 Tryd.underlying22 hi hz0 hz1 hz2 rfl (by decide) _ _ _ rfl (World.ownsRow_made w #[] 0 (Nat.le_refl _) (Nat.zero_le _) rfl) ad n c (cs l) rfl (by rw [cs_length, HL.out, Nat.mul_one]) HC.out (cs_one l) (by unfold maxLen; omega) (by omega) (by simp) ?_; intro v' w1 hown hgrow hnil)
    obtain ⟨A', c', hv, _⟩ := own_shape hown
    rw [Nat.zero_add] at hv
    subst hv
    go_wp2
    go_ret
    refine ⟨A', c', rfl, by simpa using hown, ?_⟩
    exact ((Below.refl _ w).alloc (Nat.le_refl _) _).grown hgrow (by simp) (fun k hk => by cases hk; exact Nat.le_refl _)
theorem own_len {w : World} {base n c : Nat} {e : TypeId} {A : Option Addr} {l : List F} (h : w.ownsRow base e 1 (.slice A n c) n (cs l)) : l.length = n := by
  have := h.1; rw [cs_length] at this; omega
theorem own_cap {w : World} {base n c : Nat} {e : TypeId} {A : Option Addr} {l : List F} (h : w.ownsRow base e 1 (.slice A n c) n (cs l)) : n ≤ c ∧ c ≤ 9223372036854775807 := by
  obtain ⟨A', c', hv, h1, h2⟩ := own_shape h
  injection hv with _ _ hc
  subst hc
  exact ⟨h1, by unfold maxLen at h2; exact h2⟩
theorem own_in {w : World} {base n c : Nat} {e : TypeId} {A : Option Addr} {l : List F} (h : w.ownsRow base e 1 (.slice A n c) n (cs l)) : RowIn w A n c l :=
  ⟨Row.of_own h, (own_cap h).1, by have := (own_cap h).2; unfold maxLen; exact this⟩
/-- f's values at the places below k -/
def mkF (f : Nat → F) : Nat → List F
  | 0 => []
  | k + 1 => mkF f k ++ [f k]
theorem mkF_length (f : Nat → F) (k : Nat) : (mkF f k).length = k := by
  induction k with
  | zero => rfl
  | succ k ih => simp [mkF, ih]
theorem gt_mkF (f : Nat → F) (k i : Nat) : gt (mkF f k) i = if i < k then f i else 0 := by
  induction k with
  | zero => rw [if_neg (by omega)]; rfl
  | succ k ih =>
    unfold mkF
    rw [gt_append, mkF_length, ih]
    by_cases h1 : i < k
    · rw [if_pos h1, if_pos h1, if_pos (by omega)]
    · rw [if_neg h1]
      by_cases h2 : i = k
      · subst h2; rw [if_pos (by omega), Nat.sub_self]; rfl
      · rw [if_neg (by omega), gt_ge (by simp; omega)]
theorem ret_bool {a b : Bool} (h : a = b) : Ending.returned (.bool a) = .returned (.bool b) := by rw [h]
theorem own_r {w : World} {base n c : Nat} {e : TypeId} {A : Option Addr} {l m : List F} (h : w.ownsRow base e 1 (.slice A n c) n (cs l)) (hlm : l = m) : Row w A n m := by
  subst hlm; exact Row.of_own h
set_option maxHeartbeats 400000 in
theorem Copy_c (A : Option Addr) (n c : Nat) (l : List F) (w : World) (h : Row w A n l) (hn : n ≤ 140737488355328) :
    Calls Tryd.prog 11 #[.slice A n c] w fun e w' => ∃ A' c', e = .returned (.slice A' n c') ∧ w'.ownsRow w.heap.size 5 1 (.slice A' n c') n (cs l) ∧ Below w.heap.size w w' := by
  obtain ⟨i0, hi, hz0, hz1, hz2⟩ := info_parts info_u8
  cases A with
  | none =>
    obtain ⟨rfl, rfl⟩ := h.none_nil
    go_enter Tryd.func11, Tryd.ntmps11
    go_wp2
    go_ret
    exact ⟨_, 0, rfl, World.ownsRow_made w #[] 0 (Nat.le_refl _) (Nat.zero_le _) rfl, (Below.refl _ _).alloc (Nat.le_refl _) _⟩
  | some ad =>
    have hl := h.len
    have hm := h.max
    have HC := Lib.hid (h.alloc (.cells #[] 5)).cells
    have HL := Lib.hid hl
    clear hl
    go_enter Tryd.func11, Tryd.ntmps11
    go_wp2_with (at_builtin; refine wpList_append_own _ rfl _ _ 22 rfl w.heap.size 5 i0 (.int .u8 0) 1 1 Tryd.underlying22 hi hz0 hz1 hz2 rfl (by decide) _ _ _ rfl (World.ownsRow_made w #[] 0 (Nat.le_refl _) (Nat.zero_le _) rfl) ad n c (cs l) rfl (by rw [cs_length, HL.out, Nat.mul_one]) HC.out (cs_one l) (by unfold maxLen; omega) (by omega) (by simp) ?_; intro v' w1 hown hgrow hnil)
    obtain ⟨A', c', hv, _⟩ := own_shape hown
    rw [Nat.zero_add] at hv
    subst hv
    go_wp2
    go_ret
    refine ⟨A', c', rfl, by simpa using hown, ?_⟩
    exact ((Below.refl _ w).alloc (Nat.le_refl _) _).grown hgrow (by simp) (fun k hk => by cases hk; exact Nat.le_refl _)
set_option maxHeartbeats 400000 in
theorem Same_len (A B : Option Addr) (n m ca cb : Nat) (w : World) (h : n ≠ m) (hn : n ≤ 9223372036854775807) (hm : m ≤ 9223372036854775807) :
    Calls Tryd.prog 9 #[.slice A n ca, .slice B m cb] w fun e w' => e = .returned (.bool false) ∧ w = w' := by
  have h1 : ((n : Int) != (m : Int)) = true := by rw [bne_iff_ne]; omega
  clear h
  go_enter Tryd.func9, Tryd.ntmps9
  go_wp2
  go_ret
  exact ⟨rfl, rfl⟩
theorem take_succ_gt {l : List F} {k : Nat} (h : k < l.length) : l.take (k + 1) = l.take k ++ [gt l k] := by
  rw [gt_lt h, List.take_succ_eq_append_getElem h]
set_option maxHeartbeats 400000 in
/-- the same bytes: true -/
theorem Same_c (A B : Option Addr) (n ca cb : Nat) (a b : List F) (w : World) (ha : Row w A n a) (hb : Row w B n b) (he : a = b) :
    Calls Tryd.prog 9 #[.slice A n ca, .slice B n cb] w fun e w' => e = .returned (.bool true) ∧ ∃ q, w' = w.drewN q := by
  subst he
  have hm := ha.max
  go_enter Tryd.func9, Tryd.ntmps9
  go_wp2
  go_loopw [5] (fun i wr => ∃ k q : Nat, k ≤ n ∧ i = .int .i64 k ∧ wr = w.drewN q) (fun i _ => n - (intOf i).toNat)
  case atStart => exact ⟨0, 0, by omega, rfl, rfl⟩
  case round =>
    obtain ⟨k, q, hk, rfl, rfl⟩ := hrel
    by_cases hlt : k < n
    · obtain ⟨b1, o1, rfl, _, h1⟩ := ha.at_ hlt
      obtain ⟨b2, o2, rfl, _, h2⟩ := hb.at_ hlt
      have hkn : (k : Int) < n := by omega
      go_wp2
      go_quiet (fail)
      go_wp2
      go_roundw
      case rel => exact ⟨k + 1, _, by omega, by go_num, rfl⟩
      case measure => simp [intOf]; omega
    · go_wp2
      go_ret
      exact ⟨rfl, q, rfl⟩
set_option maxHeartbeats 1000000 in
/-- of as many bytes -/
theorem Same_d (A B : Option Addr) (n ca cb : Nat) (a b : List F) (w : World) (ha : Row w A n a) (hb : Row w B n b) :
    Calls Tryd.prog 9 #[.slice A n ca, .slice B n cb] w fun e w' => e = .returned (.bool (decide (a = b))) ∧ ∃ q, w' = w.drewN q := by
  have hm := ha.max
  have HL := Lib.hid (And.intro ha.len hb.len)
  go_enter Tryd.func9, Tryd.ntmps9
  go_wp2
  go_loopw [5] (fun i wr => ∃ k q : Nat, k ≤ n ∧ i = .int .i64 k ∧ wr = w.drewN q ∧ Hid (∀ j, j < k → gt a j = gt b j)) (fun i _ => n - (intOf i).toNat)
  case atStart => exact ⟨0, 0, by omega, rfl, rfl, fun j hj => by omega⟩
  case round =>
    obtain ⟨k, q, hk, rfl, rfl, hs⟩ := hrel
    by_cases hlt : k < n
    · obtain ⟨b1, o1, rfl, _, h1⟩ := ha.at_ hlt
      obtain ⟨b2, o2, rfl, _, h2⟩ := hb.at_ hlt
      have hkn : (k : Int) < n := by omega
      by_cases he : gt a k = gt b k
      · have hne : (((gt a k).n : Int) != ((gt b k).n : Int)) = false := by rw [he]; simp
        have HE := Lib.hid he
        clear he
        go_wp2
        go_quiet (fail)
        go_wp2
        go_roundw
        case rel =>
          refine ⟨k + 1, _, by omega, by go_num, rfl, fun j hj => ?_⟩
          rcases Nat.lt_or_ge j k with h | h
          · exact hs.out j h
          · rw [show j = k by omega]; exact HE.out
        case measure => simp [intOf]; omega
      · have hne : (((gt a k).n : Int) != ((gt b k).n : Int)) = true := by
          rw [bne_iff_ne]
          exact fun e => he (F.ext (by omega))
        have HE : Hid (decide (a = b) = false) := by
          unfold Hid
          rw [decide_eq_false_iff_not]
          intro e
          exact he (by rw [e])
        clear he
        go_wp2
        go_quiet (fail)
        go_wp2
        go_ret
        exact ⟨ret_bool HE.out.symm, _, World.drewN_drewN _ _ _⟩
    · have HE : Hid (decide (a = b) = true) := by
        unfold Hid
        rw [decide_eq_true_iff]
        refine ext_gt (by rw [HL.out.1, HL.out.2]) fun i hi => hs.out i ?_
        rw [HL.out.1] at hi
        omega
      go_wp2
      go_ret
      exact ⟨ret_bool HE.out.symm, q, rfl⟩
theorem own_row_in {w : World} {base n : Nat} {e : TypeId} {v : Value} {l m : List F} (h : w.ownsRow base e 1 v n (cs l)) (hlm : l = m) : ∃ A c, v = .slice A n c ∧ RowIn w A n c m := by
  obtain ⟨A, c, rfl, _⟩ := own_shape h
  subst hlm
  exact ⟨A, c, rfl, own_in h⟩
theorem Row.in_ {w : World} {g n : Nat} {l : List F} (h : Row w (some ⟨g, 0, none⟩) n l) : RowIn w (some ⟨g, 0, none⟩) n n l := ⟨h, Nat.le_refl _, h.2.1⟩
theorem own_row {w : World} {base n c : Nat} {e : TypeId} {A : Option Addr} {l m : List F} (h : w.ownsRow base e 1 (.slice A n c) n (cs l)) (hlm : l = m) : n = m.length ∧ Row w A m.length m := by
  subst hlm
  have := own_len h
  subst this
  exact ⟨rfl, Row.of_own h⟩
theorem part_cells (w : World) (base n : Nat) (l : List F) (hl : l.length = n) {v : Value} (h : w.ownsRow base 5 1 v n (madeCells (Value.int .u8 0).cells (n * 1)).toList) : w.ownsRow base 5 1 v n (cs (part l 0)) := by
  rw [part_zero, hl, cs_replicate]
  have e : madeCells (Value.int .u8 0).cells (n * 1) = madeCells #[.int .u8 0] n := by rw [Nat.mul_one]; rfl
  rw [e, toList_madeCells_one] at h
  exact h
/-- the cell that is to be appended -/
theorem one_cell (w : World) (v : Value) (t : TypeId) : ∀ j u, [v][j]? = some u → (w.alloc (.cells #[v] t)).cell? ((⟨w.heap.size, 0, none⟩ : Addr).add j) = some u := by
  intro j u hu
  have hj : j = 0 := by
    have := (List.getElem?_eq_some_iff.1 hu).1
    simpa using this
  subst hj
  have e : (⟨w.heap.size, 0, none⟩ : Addr).add 0 = ⟨w.heap.size, 0, none⟩ := rfl
  rw [e, cell_of_row _ _ 0 _ t (0, 0) (heap_alloc_new w _)]
  simpa using hu
theorem own_base {w : World} {base base' n : Nat} {e : TypeId} {v : Value} {xs : List Value} (h : w.ownsRow base e 1 v n xs) (hb : base' ≤ base) : w.ownsRow base' e 1 v n xs := by
  refine ⟨h.1, ?_⟩
  rcases h.2 with h | ⟨g, cap, cur, hv, hbb, r⟩
  · exact .inl h
  · exact .inr ⟨g, cap, cur, hv, by omega, r⟩
theorem quiet_left {P : Program} {f : FuncId} {args : Array Value} {w : World} {n : Nat} {v : Value}
    (h : Calls P f args (w.drewN n) fun e w' => e = .returned v ∧ w.drewN n = w') : Calls P f args (w.drewN n) fun e w'' => e = .returned v ∧ ∃ m, w'' = w.drewN m :=
  h.mono fun _ _ ⟨he, hm⟩ => ⟨he, n, hm.symm⟩
theorem quiet_left0 {P : Program} {f : FuncId} {args : Array Value} {w : World} {v : Value}
    (h : Calls P f args w fun e w' => e = .returned v ∧ w = w') : Calls P f args w fun e w'' => e = .returned v ∧ ∃ m, w'' = w.drewN m :=
  h.mono fun _ _ ⟨he, hm⟩ => ⟨he, 0, hm.symm⟩
theorem quiet_add_left {P : Program} {f : FuncId} {args : Array Value} {w : World} {a n : Nat} {v : Value}
    (h : Calls P f args (w.drewN (a + n)) fun e w' => e = .returned v ∧ w.drewN (a + n) = w') : Calls P f args (w.drewN (a + n)) fun e w'' => e = .returned v ∧ ∃ m, w'' = w.drewN (a + m) :=
  h.mono fun _ _ ⟨he, hm⟩ => ⟨he, n, hm.symm⟩
theorem quiet_add {P : Program} {f : FuncId} {args : Array Value} {w : World} {a n : Nat} {v : Value}
    (h : Calls P f args (w.drewN (a + n)) fun e w' => e = .returned v ∧ ∃ m, w' = (w.drewN (a + n)).drewN m) :
    Calls P f args (w.drewN (a + n)) fun e w'' => e = .returned v ∧ ∃ m, w'' = w.drewN (a + m) :=
  h.mono fun _ _ ⟨he, m, hm⟩ => ⟨he, n + m, by rw [hm, World.drewN_drewN, Nat.add_assoc]⟩
theorem quiet_one {P : Program} {f : FuncId} {args : Array Value} {w : World} {n : Nat} {v : Value}
    (h : Calls P f args (w.drewN n) fun e w' => e = .returned v ∧ ∃ m, w' = (w.drewN n).drewN m) :
    Calls P f args (w.drewN n) fun e w'' => e = .returned v ∧ ∃ m, w'' = w.drewN m :=
  h.mono fun _ _ ⟨he, m, hm⟩ => ⟨he, n + m, by rw [hm, World.drewN_drewN]⟩
/-- a whole variable is loaded -/
theorem wpList_load_var {P : Program} {w : World} {ops : Array Oper} {rest : List Oper} {a : Act} {Q : Exit → Act → World → Prop} {dst : Option Tmp} {p : Operand} {T ty : TypeId} {pos : String} {aft : Array Edge} (g : Nat) (v : Value)
    (hp : a.eval p = .pointer (some ⟨g, 0, none⟩)) (hrun : Sem.run P (loadVar T ⟨g, 0, none⟩) w = .ok v w) (hK : wpList P ops Q rest (a.put dst v) w) :
    wpList P ops Q ({ dst := dst, op := Op.load T p, type := ty, pos := pos, after := aft, guard := none } :: rest) a w := by
  refine wpList_plain rfl fun K hK' => ?_
  have hr : (Instr.loadAt T (.pointer (some ⟨g, 0, none⟩))).run P w = .ok v w := by
    simp only [Instr.loadAt, Instr.sureAddr, Sem.run_bind, Sem.run_pure, Result.andThen]
    exact hrun
  unfold Oper.wp
  simp [execOp, hp, hr, Result.andThen]
  exact hK' _ _ hK
/-- .. is stored -/
theorem wpList_store_var {P : Program} {w : World} {ops : Array Oper} {rest : List Oper} {a : Act} {Q : Exit → Act → World → Prop} {p x : Operand} {T ty : TypeId} {pos : String} {aft : Array Edge} (g : Nat) (v : Value) (w' : World)
    (hp : a.eval p = .pointer (some ⟨g, 0, none⟩)) (hx : a.eval x = v) (hrun : Sem.run P (storeVar T ⟨g, 0, none⟩ v) w = .ok () w') (hK : wpList P ops Q rest a w') :
    wpList P ops Q ({ dst := none, op := Op.store T p x, type := ty, pos := pos, after := aft, guard := none } :: rest) a w := by
  refine wpList_plain rfl fun K hK' => ?_
  have hr : (Instr.storeAt T (.pointer (some ⟨g, 0, none⟩)) v).run P w = .ok () w' := by
    simp only [Instr.storeAt, Instr.sureAddr, Sem.run_bind, Sem.run_pure, Result.andThen]
    exact hrun
  unfold Oper.wp
  simp [execOp, hp, hx, hr, Result.andThen]
  exact hK' _ _ hK
theorem Blk.lt {w : World} {g : Nat} {t : TypeId} {C : Array Value} (h : Blk w g t C) : g < w.heap.size := (Array.getElem?_eq_some_iff.1 h).1
theorem Blk.drew {w : World} {g : Nat} {t : TypeId} {C : Array Value} (h : Blk w g t C) : Blk w.drew g t C := h
end Go.Proofs.YtbphbogolffanaaDoor
