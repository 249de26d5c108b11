/-
  THE CONTRACTS OF little's READER, as it is used: Read, Num, Bytes, Rest.
-/
import Derived.Test.YtacllgglpjdobaaDoorLitB
namespace Go.Proofs.YtacllgglpjdobaaDoor
open Go.RowKit
set_option maxRecDepth 100000
set_option linter.unusedVariables false

theorem Rdr.out {w w' : World} {p q : Nat} {A : Option Addr} {len cap : Nat} {l : List F} {at_ : Nat} {sh : Bool} (h : Rdr w p A len cap l at_ sh) (ho : Out q (q + 1) w w') (hp : p ≠ q) (hA : ∀ b o, A = some ⟨b, o, none⟩ → b ≠ q) : Rdr w' p A len cap l at_ sh := by
  refine ⟨?_, ⟨⟨h.row.row.1, h.row.row.2.1, fun hn => ?_⟩, h.row.le, h.row.max⟩, h.le, h.ne⟩
  · have := h.blk
    unfold Blk at this ⊢
    rw [ho.block p h.lt (by omega)]
    exact this
  · obtain ⟨b, o, e, hl, hc⟩ := h.row.row.2.2 hn
    refine ⟨b, o, e, Nat.lt_of_lt_of_le hl ho.size, fun i hi => ?_⟩
    rw [World.cell?_of_block (a := ⟨b, o + i, none⟩) (ho.block b hl (by have := hA b o e; omega))]
    exact hc i hi
theorem Read_c (A : Option Addr) (n c : Nat) (l : List F) (w : World) (h : Row w A n l) (hn : n ≤ 140737488355328) :
    Calls Tryd.prog 49 #[.slice A n c] w fun e w' => ∃ p A' c', e = .returned (.pointer (some ⟨p, 0, none⟩)) ∧ Rdr w' p A' n c' l 0 false ∧ w.heap.size ≤ p ∧ Below w.heap.size w w' := by
  go_enter Tryd.func49, Tryd.ntmps49
  go_wp2_with (go_at_call 62; refine (Clone_c A n c l _ h hn).mono ?_; rintro e w1 ⟨A', c', rfl, hown, hbel⟩)
  go_ret
  have hin := own_in hown
  refine ⟨w1.heap.size, A', c', rfl, ⟨Blk.new w1 _ _, ⟨hin.row.alloc _, hin.le, hin.max⟩, by omega, fun b o e => ?_⟩, hbel.size, hbel.alloc hbel.size _⟩
  subst e
  have := (hown.lt b rfl).2
  omega
section
variable {w : World} {p : Nat} {A : Option Addr} {len cap : Nat} {l : List F} {at_ : Nat} {sh : Bool}
theorem Num_ok (h : Rdr w p A len cap l at_ false) (s : Int) (hn : at_ + heldN s 8 ≤ len) :
    Calls Tryd.prog 50 #[.pointer (some ⟨p, 0, none⟩), .int .i64 s] w fun e w' => e = .returned (.int .u64 (getL ((l.drop at_).take (heldN s 8)))) ∧ Rdr w' p A len cap l (at_ + heldN s 8) false ∧ Out p (p + 1) w w' := by
  have h8 := heldN_le s 8
  have ht : Hid ((((l.drop at_).take (heldN s 8)).take 8) = (l.drop at_).take (heldN s 8)) := List.take_of_length_le (by simp; omega)
  go_enter Tryd.func50, Tryd.ntmps50
  go_wp2_with (first
    | (go_at_call 58; refine (held_c _ _).mono ?_; rintro e w' ⟨rfl, rfl⟩)
    | (go_at_call 63; refine (next_ok h _ hn).mono ?_; rintro e w1 ⟨A', c', rfl, hrow, hR, hO⟩)
    | (go_at_call 48; refine (Get_c _ _ _ _ _ hrow.row).mono ?_; rintro e w' ⟨rfl, rfl⟩))
  go_ret
  exact ⟨ret_u64 (by rw [ht.out]), hR, hO⟩
theorem Num_no (h : Rdr w p A len cap l at_ sh) (s : Int) (hn : sh = true ∨ len - at_ < heldN s 8) :
    Calls Tryd.prog 50 #[.pointer (some ⟨p, 0, none⟩), .int .i64 s] w fun e w' => e = .returned (.int .u64 0) ∧ Rdr w' p A len cap l at_ true ∧ Out p (p + 1) w w' := by
  have h8 := heldN_le s 8
  go_enter Tryd.func50, Tryd.ntmps50
  go_wp2_with (first
    | (go_at_call 58; refine (held_c _ _).mono ?_; rintro e w' ⟨rfl, rfl⟩)
    | (go_at_call 63; refine (next_no h _ hn).mono ?_; rintro e w1 ⟨rfl, hR, hO⟩)
    | (go_at_call 48; refine (Get_c _ _ _ _ _ (Row.nil _ _)).mono ?_; rintro e w' ⟨rfl, rfl⟩))
  go_ret
  exact ⟨rfl, hR, hO⟩
theorem Bytes_ok (h : Rdr w p A len cap l at_ false) (n : Nat) (hn : at_ + n ≤ len) (hl : len ≤ 140737488355328) :
    Calls Tryd.prog 51 #[.pointer (some ⟨p, 0, none⟩), .int .i64 n] w fun e w' => ∃ A' c', e = .returned (.slice A' n c') ∧ w'.ownsRow w.heap.size 5 1 (.slice A' n c') n (cs ((l.drop at_).take n)) ∧ Rdr w' p A len cap l (at_ + n) false ∧ Out p (p + 1) w w' := by
  have hn0 : ¬ (n : Int) < 0 := by omega
  go_enter Tryd.func51, Tryd.ntmps51
  go_wp2_with (first
    | (go_at_call 63; refine (next_ok h _ hn).mono ?_; rintro e w1 ⟨A1, c1, rfl, hrow, hR, hO⟩)
    | (go_at_call 62; refine (Clone_c _ _ _ _ _ hrow.row (by omega)).mono ?_; rintro e w2 ⟨A', c', rfl, hown, hbel⟩))
  go_ret
  exact ⟨A', c', rfl, own_base2 hown hO.size, hR.below hbel, hO.ofB hbel⟩
theorem Bytes_no (h : Rdr w p A len cap l at_ sh) (n : Nat) (hn : sh = true ∨ len - at_ < n) :
    Calls Tryd.prog 51 #[.pointer (some ⟨p, 0, none⟩), .int .i64 n] w fun e w' => ∃ A' c', e = .returned (.slice A' 0 c') ∧ w'.ownsRow w.heap.size 5 1 (.slice A' 0 c') 0 (cs []) ∧ Rdr w' p A len cap l at_ true ∧ Out p (p + 1) w w' := by
  have hn0 : ¬ (n : Int) < 0 := by omega
  go_enter Tryd.func51, Tryd.ntmps51
  go_wp2_with (first
    | (go_at_call 63; refine (next_no h _ hn).mono ?_; rintro e w1 ⟨rfl, hR, hO⟩)
    | (go_at_call 62; refine (Clone_c none 0 0 [] _ (Row.nil _ _) (by omega)).mono ?_; rintro e w2 ⟨A', c', rfl, hown, hbel⟩))
  go_ret
  exact ⟨A', c', rfl, own_base2 hown hO.size, hR.below hbel, hO.ofB hbel⟩
end
end Go.Proofs.YtacllgglpjdobaaDoor
