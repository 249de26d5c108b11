/-
  THE CONTRACTS OF little's READER, as it is used: Read, Num, Bytes, Rest.
-/
import Derived.Test.YtekpmpgolpghiaaLitB
namespace Go.Proofs.Ytekpmpgolpghiaa
open Go.RowKit
set_option maxRecDepth 100000
set_option linter.unusedVariables false

theorem Rdr.out {w w' : World} {p q : Nat} {A : Option Addr} {len cap : Nat} {l : List F} {at_ : Nat} {sh : Bool} (h : Rdr w p A len cap l at_ sh) (ho : Out q (q + 1) w w') (hp : p ≠ q) (hA : ∀ b o, A = some ⟨b, o, none⟩ → b ≠ q) : Rdr w' p A len cap l at_ sh := by
  refine ⟨?_, ⟨⟨h.row.row.1, h.row.row.2.1, fun hn => ?_⟩, h.row.le, h.row.max⟩, h.le, h.ne⟩
  · have := h.blk
    unfold Blk at this ⊢
    rw [ho.block p h.lt (by omega)]
    exact this
  · obtain ⟨b, o, e, hl, hc⟩ := h.row.row.2.2 hn
    refine ⟨b, o, e, Nat.lt_of_lt_of_le hl ho.size, fun i hi => ?_⟩
    rw [World.cell?_of_block (a := ⟨b, o + i, none⟩) (ho.block b hl (by have := hA b o e; omega))]
    exact hc i hi
theorem Row.outOf {w w' : World} {q : Nat} {A : Option Addr} {n : Nat} {l : List F} (h : Row w A n l) (ho : Out q (q + 1) w w') (hA : ∀ b o, A = some ⟨b, o, none⟩ → b ≠ q) : Row w' A n l := by
  refine ⟨h.1, h.2.1, fun hn => ?_⟩
  obtain ⟨b, o, e, hl, hc⟩ := h.2.2 hn
  refine ⟨b, o, e, Nat.lt_of_lt_of_le hl ho.size, fun i hi => ?_⟩
  rw [World.cell?_of_block (a := ⟨b, o + i, none⟩) (ho.block b hl (by have := hA b o e; omega))]
  exact hc i hi
theorem RowIn.outOf {w w' : World} {q : Nat} {A : Option Addr} {n c : Nat} {l : List F} (h : RowIn w A n c l) (ho : Out q (q + 1) w w') (hA : ∀ b o, A = some ⟨b, o, none⟩ → b ≠ q) : RowIn w' A n c l := ⟨h.row.outOf ho hA, h.le, h.max⟩
theorem own_ne {w : World} {base n c p : Nat} {e : TypeId} {A : Option Addr} {xs : List Value} (h : w.ownsRow base e 1 (.slice A n c) n xs) (hp : p < base) : ∀ b o, A = some ⟨b, o, none⟩ → b ≠ p := fun b o e => by
  rcases h.2 with ⟨hv, _⟩ | ⟨g, cap, cur, hv, hg, _⟩
  · injection hv with hv; rw [hv] at e; cases e
  · injection hv with hv; rw [hv] at e; injection e with e; injection e with e; omega
theorem Out.lowAt {p : Nat} {w w' : World} {B : Nat} (h : Out p (p + 1) w w') (hB : B ≤ p) (hp : p < w.heap.size) : Below B w w' := (h.below (by omega)).mono hB
theorem Out.ofB {lo hi : Nat} {w w' w'' : World} (h : Out lo hi w w') (hb : Below w'.heap.size w' w'') : Out lo hi w w'' := h.trans (Out.ofBelow hb)
theorem own_base2 {w : World} {base base' n : Nat} {e : TypeId} {v : Value} {xs : List Value} (h : w.ownsRow base e 1 v n xs) (hb : base' ≤ base) : w.ownsRow base' e 1 v n xs := by
  refine ⟨h.1, ?_⟩
  rcases h.2 with hn | ⟨g, cap, cur, rfl, hbg, rest⟩
  · exact .inl hn
  · exact .inr ⟨g, cap, cur, rfl, by omega, rest⟩
theorem Read_c (A : Option Addr) (n c : Nat) (l : List F) (w : World) (h : Row w A n l) (hn : n ≤ 140737488355328) :
    Calls Try.prog 17 #[.slice A n c] w fun e w' => ∃ p A' c', e = .returned (.pointer (some ⟨p, 0, none⟩)) ∧ Rdr w' p A' n c' l 0 false ∧ w.heap.size ≤ p ∧ Below w.heap.size w w' := by
  go_enter Try.func17, Try.ntmps17
  go_wp2_with (go_at_call 47; refine (Clone_c A n c l _ h hn).mono ?_; rintro e w1 ⟨A', c', rfl, hown, hbel⟩)
  go_ret
  have hin := own_in hown
  refine ⟨w1.heap.size, A', c', rfl, ⟨Blk.new w1 _ _, ⟨hin.row.alloc _, hin.le, hin.max⟩, by omega, fun b o e => ?_⟩, hbel.size, hbel.alloc hbel.size _⟩
  subst e
  have := (hown.lt b rfl).2
  omega
section
variable {w : World} {p : Nat} {A : Option Addr} {len cap : Nat} {l : List F} {at_ : Nat} {sh : Bool}
theorem Num_ok (h : Rdr w p A len cap l at_ false) (s : Int) (hn : at_ + heldN s 8 ≤ len) :
    Calls Try.prog 19 #[.pointer (some ⟨p, 0, none⟩), .int .i64 s] w fun e w' => e = .returned (.int .u64 (getL ((l.drop at_).take (heldN s 8)))) ∧ Rdr w' p A len cap l (at_ + heldN s 8) false ∧ Out p (p + 1) w w' := by
  have h8 := heldN_le s 8
  have ht : Hid ((((l.drop at_).take (heldN s 8)).take 8) = (l.drop at_).take (heldN s 8)) := List.take_of_length_le (by simp; omega)
  go_enter Try.func19, Try.ntmps19
  go_wp2_with (first
    | (go_at_call 46; refine (held_c _ _).mono ?_; rintro e w' ⟨rfl, rfl⟩)
    | (go_at_call 48; refine (next_ok h _ hn).mono ?_; rintro e w1 ⟨A', c', rfl, hrow, hR, hO⟩)
    | (go_at_call 15; refine (Get_c _ _ _ _ _ hrow.row).mono ?_; rintro e w' ⟨rfl, rfl⟩))
  go_ret
  exact ⟨ret_u64 (by rw [ht.out]), hR, hO⟩
theorem Num_no (h : Rdr w p A len cap l at_ sh) (s : Int) (hn : sh = true ∨ len - at_ < heldN s 8) :
    Calls Try.prog 19 #[.pointer (some ⟨p, 0, none⟩), .int .i64 s] w fun e w' => e = .returned (.int .u64 0) ∧ Rdr w' p A len cap l at_ true ∧ Out p (p + 1) w w' := by
  have h8 := heldN_le s 8
  go_enter Try.func19, Try.ntmps19
  go_wp2_with (first
    | (go_at_call 46; refine (held_c _ _).mono ?_; rintro e w' ⟨rfl, rfl⟩)
    | (go_at_call 48; refine (next_no h _ hn).mono ?_; rintro e w1 ⟨rfl, hR, hO⟩)
    | (go_at_call 15; refine (Get_c _ _ _ _ _ (Row.nil _ _)).mono ?_; rintro e w' ⟨rfl, rfl⟩))
  go_ret
  exact ⟨rfl, hR, hO⟩
theorem Bytes_ok (h : Rdr w p A len cap l at_ false) (n : Nat) (hn : at_ + n ≤ len) (hl : len ≤ 140737488355328) :
    Calls Try.prog 24 #[.pointer (some ⟨p, 0, none⟩), .int .i64 n] w fun e w' => ∃ A' c', e = .returned (.slice A' n c') ∧ w'.ownsRow w.heap.size 5 1 (.slice A' n c') n (cs ((l.drop at_).take n)) ∧ Rdr w' p A len cap l (at_ + n) false ∧ Out p (p + 1) w w' := by
  have hn0 : ¬ (n : Int) < 0 := by omega
  go_enter Try.func24, Try.ntmps24
  go_wp2_with (first
    | (go_at_call 48; refine (next_ok h _ hn).mono ?_; rintro e w1 ⟨A1, c1, rfl, hrow, hR, hO⟩)
    | (go_at_call 47; refine (Clone_c _ _ _ _ _ hrow.row (by omega)).mono ?_; rintro e w2 ⟨A', c', rfl, hown, hbel⟩))
  go_ret
  exact ⟨A', c', rfl, own_base2 hown hO.size, hR.below hbel, hO.ofB hbel⟩
theorem Bytes_no (h : Rdr w p A len cap l at_ sh) (n : Nat) (hn : sh = true ∨ len - at_ < n) :
    Calls Try.prog 24 #[.pointer (some ⟨p, 0, none⟩), .int .i64 n] w fun e w' => ∃ A' c', e = .returned (.slice A' 0 c') ∧ w'.ownsRow w.heap.size 5 1 (.slice A' 0 c') 0 (cs []) ∧ Rdr w' p A len cap l at_ true ∧ Out p (p + 1) w w' := by
  have hn0 : ¬ (n : Int) < 0 := by omega
  go_enter Try.func24, Try.ntmps24
  go_wp2_with (first
    | (go_at_call 48; refine (next_no h _ hn).mono ?_; rintro e w1 ⟨rfl, hR, hO⟩)
    | (go_at_call 47; refine (Clone_c none 0 0 [] _ (Row.nil _ _) (by omega)).mono ?_; rintro e w2 ⟨A', c', rfl, hown, hbel⟩))
  go_ret
  exact ⟨A', c', rfl, own_base2 hown hO.size, hR.below hbel, hO.ofB hbel⟩
theorem Rest_ok (h : Rdr w p A len cap l at_ false) (hl : len ≤ 140737488355328) :
    Calls Try.prog 23 #[.pointer (some ⟨p, 0, none⟩)] w fun e w' => ∃ A' c', e = .returned (.slice A' (len - at_) c') ∧ w'.ownsRow w.heap.size 5 1 (.slice A' (len - at_) c') (len - at_) (cs (l.drop at_)) ∧ Rdr w' p A len cap l len false ∧ Out p (p + 1) w w' := by
  have hle := h.le
  have ht : Hid ((l.drop at_).take (len - at_) = l.drop at_) := List.take_of_length_le (by have := h.row.row.len; simp; omega)
  have he : Hid (at_ + (len - at_) = len) := by unfold Hid; omega
  go_enter Try.func23, Try.ntmps23
  go_wp2_with (first
    | (go_at_call 20; refine (Left_c h).mono ?_; rintro e w' ⟨rfl, q, rfl⟩)
    | (go_at_call 24; refine (Bytes_ok (h.drewN q) _ (by omega) hl).mono ?_; rintro e w1 ⟨A', c', rfl, hown, hR, hO⟩))
  go_ret
  rw [ht.out] at hown
  rw [he.out] at hR
  exact ⟨A', c', rfl, hown, hR, (Out.drewN _ _ w q).trans hO⟩
theorem Rest_no (h : Rdr w p A len cap l at_ true) :
    Calls Try.prog 23 #[.pointer (some ⟨p, 0, none⟩)] w fun e w' => ∃ A' c', e = .returned (.slice A' 0 c') ∧ w'.ownsRow w.heap.size 5 1 (.slice A' 0 c') 0 (cs []) ∧ Rdr w' p A len cap l at_ true ∧ Out p (p + 1) w w' := by
  go_enter Try.func23, Try.ntmps23
  go_wp2_with (first
    | (go_at_call 20; refine (Left_c h).mono ?_; rintro e w' ⟨rfl, q, rfl⟩)
    | (go_at_call 24; refine (Bytes_no (h.drewN q) _ (.inl rfl)).mono ?_; rintro e w1 ⟨A', c', rfl, hown, hR, hO⟩))
  go_ret
  exact ⟨A', c', rfl, hown, hR, (Out.drewN _ _ w q).trans hO⟩
end
end Go.Proofs.Ytekpmpgolpghiaa
