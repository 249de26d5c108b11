/-
  ROWS OF ROWS THAT COME IN, and the document's own Join of them. No conditions.
-/
import Derived.Test.YtacllgglpjdobaaDoorBase
import Derived.Deep.Matrix
namespace Go.Proofs.YtacllgglpjdobaaDoor
open Go.RowKit
set_option maxRecDepth 100000
set_option linter.unusedVariables false

/-- a row of rows that came in -/
structure MIn (w : World) (A : Option Addr) (n cap : Nat) (RA : Nat → Option Addr) (RL RC : Nat → Nat) (R : Nat → List F) : Prop where
  le : n ≤ cap
  max : cap ≤ maxLen
  top : 0 < n → ∃ b off, A = some ⟨b, off, none⟩ ∧ b < w.heap.size ∧ ∀ r, r < n → w.cell? ⟨b, off + r, none⟩ = some (.slice (RA r) (RL r) (RC r))
  row : ∀ r, r < n → RowIn w (RA r) (RL r) (RC r) (R r)
namespace MIn
variable {w w' : World} {A : Option Addr} {n cap : Nat} {RA : Nat → Option Addr} {RL RC : Nat → Nat} {R : Nat → List F}
theorem below (h : MIn w A n cap RA RL RC R) (hb : Below w.heap.size w w') : MIn w' A n cap RA RL RC R :=
  ⟨h.le, h.max, fun hn => by
    obtain ⟨b, off, e, hl, hc⟩ := h.top hn
    exact ⟨b, off, e, by have := hb.size; omega, fun r hr => (hb.cell (p := ⟨b, off + r, none⟩) hl).trans (hc r hr)⟩, fun r hr => (h.row r hr).below hb⟩
theorem drewN (h : MIn w A n cap RA RL RC R) (q : Nat) : MIn (w.drewN q) A n cap RA RL RC R := ⟨h.le, h.max, h.top, fun r hr => (h.row r hr).drewN q⟩
theorem at_ (h : MIn w A n cap RA RL RC R) {r : Nat} (hr : r < n) : ∃ b off, A = some ⟨b, off, none⟩ ∧ b < w.heap.size ∧ w.cell? ⟨b, off + r, none⟩ = some (.slice (RA r) (RL r) (RC r)) := by
  obtain ⟨b, off, e, hl, hc⟩ := h.top (by omega)
  exact ⟨b, off, e, hl, hc r hr⟩
theorem nmax (h : MIn w A n cap RA RL RC R) : n ≤ 9223372036854775807 := by have := h.le; have := h.max; unfold maxLen at this; omega
theorem nil (w : World) : MIn w none 0 0 (fun _ => none) (fun _ => 0) (fun _ => 0) (fun _ => []) := ⟨Nat.le_refl _, by unfold maxLen; omega, fun h => by omega, fun r hr => by omega⟩
theorem ofCells {x : Addr} {Z : Nat → List Int} (hl : n ≤ cap) (hm : cap ≤ maxLen)
    (h : ∀ r, r < cap → w.cell? (x.add r) = some (.slice (RA r) (RL r) (RC r)) ∧ RL r ≤ RC r ∧ RC r ≤ maxLen ∧ (Z r).length = RC r ∧ (∀ n ∈ Z r, (Lit.int .u8 n).wf = true) ∧ (RA r = none → RC r = 0) ∧
      ∀ a', RA r = some a' → 0 ≤ a'.block ∧ ∀ c, c < RC r → w.cell? (a'.add c) = some (.int .u8 ((Z r).getD c 0))) : ∃ RA RL RC R, MIn w (some x) n cap RA RL RC R := by
  have key : ∀ r, r < n → ∃ l, RowIn w (RA r) (RL r) (RC r) l := fun r hr => by
    obtain ⟨h1, h2, h3, h4, h5, h6, h7⟩ := h r (by omega)
    cases hA : RA r with
    | none =>
      have e := h6 hA
      have e2 : RL r = 0 := by omega
      rw [e, e2]
      exact ⟨[], RowIn.nil_ w⟩
    | some a' =>
      obtain ⟨_, h8⟩ := h7 a' hA
      exact RowIn.ofCells h2 h3 h4 (fun i hi => h8 i (by omega)) h5
  obtain ⟨R, hR⟩ := Go.Deep.choose_lt key
  refine ⟨RA, RL, RC, R, hl, hm, fun hn => ?_, hR⟩
  obtain ⟨b, off, spot⟩ := x
  have h0 := (h 0 (by omega)).1
  have hspot : spot = none := by simpa [Addr.add] using World.cell?_spot h0
  subst hspot
  refine ⟨b, off, rfl, World.block_lt_of_cell? w _ h0, fun r hr => ?_⟩
  have h1 := (h r (by omega)).1
  have e : (⟨b, off, none⟩ : Addr).add r = ⟨b, off + r, none⟩ := by unfold Addr.add; split <;> simp_all
  rw [e] at h1
  exact h1
end MIn

/-- rows that are laid in a block of their own -/
theorem rows_lit {w : World} {n : Nat} {RA : Nat → Option Addr} {RL RC : Nat → Nat} {R : Nat → List F} (h : ∀ r, r < n → RowIn w (RA r) (RL r) (RC r) (R r)) (C : Array Value) (hC : ∀ r, r < n → C[r]? = some (.slice (RA r) (RL r) (RC r))) (T : TypeId) (hn : n ≤ maxLen) :
    MIn (w.alloc (.cells C T)) (some ⟨w.heap.size, 0, none⟩) n n RA RL RC R :=
  ⟨Nat.le_refl _, hn, fun _ => ⟨_, 0, rfl, by simp, fun r hr => by
    rw [Nat.zero_add, cell_of_row _ _ _ _ _ (0, 0) (heap_alloc_new w _)]
    exact hC r hr⟩, fun r hr => (h r hr).below ((Below.refl _ _).alloc (Nat.le_refl _) _)⟩
/-- of three -/
def th3 {α : Type} (a b c : α) : Nat → α := fun r => if r = 0 then a else if r = 1 then b else c
/-- the first k rows, one behind the other -/
def joinTo (R : Nat → List F) : Nat → List F
  | 0 => []
  | k + 1 => joinTo R k ++ R k
def lenTo (RL : Nat → Nat) : Nat → Nat
  | 0 => 0
  | k + 1 => lenTo RL k + RL k
theorem lenTo_le {RL : Nat → Nat} {n b : Nat} (h : ∀ r, r < n → RL r ≤ b) : ∀ k, k ≤ n → lenTo RL k ≤ k * b
  | 0, _ => by simp [lenTo]
  | k + 1, hk => by
    have h1 := lenTo_le h k (by omega)
    have h2 := h k (by omega)
    show lenTo RL k + RL k ≤ (k + 1) * b
    rw [Nat.add_mul, Nat.one_mul]
    omega
set_option maxHeartbeats 1000000 in
theorem Join_c {w : World} {A : Option Addr} {n cap : Nat} {RA : Nat → Option Addr} {RL RC : Nat → Nat} {R : Nat → List F} (h : MIn w A n cap RA RL RC R) (hn : n ≤ 1048576) (hl : ∀ r, r < n → RL r ≤ 1048576) :
    Calls Tryd.prog 45 #[.slice A n cap] w fun e w' => ∃ g c, e = .returned (.slice (some ⟨g, 0, none⟩) (lenTo RL n) c) ∧ w'.ownsRow w.heap.size 5 1 (.slice (some ⟨g, 0, none⟩) (lenTo RL n) c) (lenTo RL n) (cs (joinTo R n)) ∧ Below w.heap.size w w' := by
  obtain ⟨i0, hi, hz0, hz1, hz2⟩ := info_parts info_u8
  have HL := Lib.hid hl
  clear hl
  go_enter Tryd.func45, Tryd.ntmps45
  go_wp2
  go_loopw [3, 4] (fun vs i wr => ∃ (k t g c : Nat), k ≤ n ∧ i = .int .i64 k ∧ Hid (t = lenTo RL k) ∧ vs = .slice (some ⟨g, 0, none⟩) t c ∧ wr.ownsRow w.heap.size 5 1 (.slice (some ⟨g, 0, none⟩) t c) t (cs (joinTo R k)) ∧ Below w.heap.size w wr) (fun _ i _ => n - (intOf i).toNat)
  case atStart => exact ⟨0, 0, _, 0, by omega, rfl, rfl, rfl, World.ownsRow_made (e := 5) (size := 1) w #[] 0 (Nat.le_refl _) (Nat.zero_le _) rfl, (Below.refl _ _).alloc (Nat.le_refl _) _⟩
  case round =>
    obtain ⟨k, t, g, c, hk, rfl, ht, rfl, hown, hbel⟩ := hrel
    by_cases hlt : k < n
    · have hkn : (k : Int) < n := by omega
      have h2 := h.below hbel
      obtain ⟨b1, o1, rfl, _, q1⟩ := h2.at_ hlt
      have hrow := (h2.row k hlt).row
      have hlk := HL.out k hlt
      have htb : t ≤ 1099511627776 := by
        have h1 := lenTo_le HL.out k hk
        rw [ht.out]
        have h3 : k * 1048576 ≤ 1048576 * 1048576 := Nat.mul_le_mul_right _ (by omega)
        omega
      have hbs := hbel.size
      have hnext : Hid (lenTo RL (k + 1) = t + RL k) := by unfold Hid; rw [ht.out]; rfl
      have hlen := hrow.len
      cases hA : RA k with
      | none =>
        rw [hA] at q1 hrow
        obtain ⟨e1, e2⟩ := hrow.none_nil
        rw [e1] at q1
        have hn2 : Hid (lenTo RL (k + 1) = t) := by unfold Hid; rw [hnext.out, e1]; rfl
        have hj2 : Hid (joinTo R (k + 1) = joinTo R k) := by
          show joinTo R k ++ R k = _
          rw [e2, List.append_nil]
        have hcap := own_cap hown
        clear e1 e2 hnext hlen hrow h2 hA
        go_wp2
        go_roundw
        case rel => exact ⟨k + 1, t, g, c, by omega, by go_num, hn2.out.symm, rfl, by rw [hj2.out]; exact hown, hbel⟩
        case measure => simp [intOf]; omega
      | some ad =>
        rw [hA] at q1 hrow
        have HC := Lib.hid hrow.cells
        have HLEN := Lib.hid hlen
        clear hlen h2 hA
        go_wp2_with (at_builtin; refine wpList_append_own _ rfl (.tmp 12) (.tmp 16) 31 rfl w.heap.size 5 i0 (.int .u8 0) 1 1 Tryd.underlying31 hi hz0 hz1 hz2 rfl (by decide) (.slice (some ⟨g, 0, none⟩) t c) t (cs (joinTo R k)) rfl hown ad (RL k) (RC k) (cs (R k)) rfl (by rw [cs_length, HLEN.out, Nat.mul_one]) HC.out (cs_one _) (by unfold maxLen; omega) (by omega) hbs ?_; intro v4 w4 hown4 hg4 hnil4)
        have hsome : ∃ g4 c4, v4 = .slice (some ⟨g4, 0, none⟩) (t + RL k) c4 := by
          rcases hown4.2 with ⟨hv, _⟩ | ⟨g4, c4, cur, hv, _⟩
          · have := (hnil4.1 hv).1
            injection this with this
            cases this
          · exact ⟨g4, c4, hv⟩
        obtain ⟨g4, c4, rfl⟩ := hsome
        rw [← cs_append] at hown4
        have hb4 := hbel.grown hg4 hbs (fun x hx => (hown.lt x hx).1)
        clear hown hbel hg4 hnil4
        go_wp2
        go_roundw
        case rel => exact ⟨k + 1, _, g4, c4, by omega, by go_num, hnext.out.symm, rfl, hown4, hb4⟩
        case measure => simp [intOf]; omega
    · obtain rfl : k = n := by omega
      go_wp2
      go_ret
      rw [← ht.out]
      exact ⟨g, c, rfl, hown, hbel⟩

/-- a row, and a byte behind it -/
theorem two_in {w : World} {H : Nat} {ad : Option Addr} {n c : Nat} {l : List F} {x : F} (hrow : RowIn w ad n c l) (hx : w.cell? ⟨H, 0, none⟩ = some (.int .u8 x.n)) (o : Obj) (T : TypeId)
    (ho : o = .cells #[.slice ad n c, .slice (some ⟨H, 0, none⟩) 1 1] T) :
    MIn (w.alloc o) (some ⟨w.heap.size, 0, none⟩) 2 2 (fun r => if r = 0 then ad else some ⟨H, 0, none⟩) (fun r => if r = 0 then n else 1) (fun r => if r = 0 then c else 1) (fun r => if r = 0 then l else [x]) := by
  have hb : Below w.heap.size w (w.alloc o) := (Below.refl _ _).alloc (Nat.le_refl _) _
  refine ⟨Nat.le_refl _, by unfold maxLen; omega, fun _ => ⟨_, 0, rfl, by simp, fun r hr => ?_⟩, fun r hr => ?_⟩
  · subst ho
    rw [Nat.zero_add]
    have h0 : (w.alloc (.cells #[.slice ad n c, .slice (some ⟨H, 0, none⟩) 1 1] T)).heap[w.heap.size]? = some (.cells #[.slice ad n c, .slice (some ⟨H, 0, none⟩) 1 1] T (0, 0)) := heap_alloc_new w _
    rw [cell_of_row _ _ _ _ _ (0, 0) h0]
    rcases (show r = 0 ∨ r = 1 by omega) with rfl | rfl
    · rfl
    · rfl
  · rcases (show r = 0 ∨ r = 1 by omega) with rfl | rfl
    · exact hrow.below hb
    · have hlt := World.block_lt_of_cell? w _ hx
      show RowIn _ (some ⟨H, 0, none⟩) 1 1 [x]
      refine ⟨⟨rfl, by unfold maxLen; decide, fun _ => ⟨H, 0, rfl, by simp; exact Nat.lt_succ_of_lt hlt, fun i hi => ?_⟩⟩, Nat.le_refl _, by unfold maxLen; decide⟩
      obtain rfl : i = 0 := by omega
      rw [Nat.add_zero, hb.cell (p := ⟨H, 0, none⟩) hlt, hx]
      rfl
theorem lenTo_two (n : Nat) : lenTo (fun r => if r = 0 then n else 1) 2 = n + 1 := by simp [lenTo]
theorem joinTo_two (l : List F) (x : F) : joinTo (fun r => if r = 0 then l else [x]) 2 = l ++ [x] := by simp [joinTo]
theorem Join_two {wr : World} {ad : Option Addr} {L c : Nat} {l : List F} {x : F} (hrow : RowIn wr ad L c l) (hL : L ≤ 1000000) :
    Calls Tryd.prog 45 #[.slice (some ⟨wr.heap.size + 1, 0, none⟩) 2 2] ((wr.alloc (.cells #[.int .u8 x.n] 5)).alloc (.cells #[.slice ad L c, .slice (some ⟨wr.heap.size, 0, none⟩) 1 1] 31)).drew fun e w' =>
      ∃ g c', e = .returned (.slice (some ⟨g, 0, none⟩) (L + 1) c') ∧ w'.ownsRow wr.heap.size 5 1 (.slice (some ⟨g, 0, none⟩) (L + 1) c') (L + 1) (cs (l ++ [x])) ∧ Below wr.heap.size wr w' := by
  have h0 : (wr.alloc (.cells #[.int .u8 x.n] 5)).cell? ⟨wr.heap.size, 0, none⟩ = some (.int .u8 x.n) := (Blk.new wr 5 #[.int .u8 x.n]).cell 0
  have h1 := (two_in (w := wr.alloc (.cells #[.int .u8 x.n] 5)) (hrow.below ((Below.refl _ wr).alloc (Nat.le_refl _) _)) (x := x) (H := wr.heap.size) h0 (.cells #[.slice ad L c, .slice (some ⟨wr.heap.size, 0, none⟩) 1 1] 31) 31 rfl).drewN 1
  rw [World.size_alloc] at h1
  have h2 := Join_c h1 (by omega) (fun r hr => by split <;> omega)
  rw [lenTo_two, joinTo_two] at h2
  refine h2.mono ?_
  rintro e w' ⟨g, c', rfl, hown, hb⟩
  have hsz : (((wr.alloc (.cells #[.int .u8 x.n] 5)).alloc (.cells #[.slice ad L c, .slice (some ⟨wr.heap.size, 0, none⟩) 1 1] 31)).drewN 1).heap.size = wr.heap.size + 2 := by simp [World.drewN]
  rw [hsz] at hown hb
  exact ⟨g, c', rfl, own_base hown (by omega), (below_drewN (((Below.refl _ wr).alloc (Nat.le_refl _) _).alloc (by simp) _) 1).trans (hb.mono (by omega))⟩
theorem lenTo_three (a b c : Nat) : lenTo (th3 a b c) 3 = a + b + c := by simp [lenTo, th3]
theorem joinTo_three (a b c : List F) : joinTo (th3 a b c) 3 = a ++ b ++ c := by simp [joinTo, th3]
end Go.Proofs.YtacllgglpjdobaaDoor
