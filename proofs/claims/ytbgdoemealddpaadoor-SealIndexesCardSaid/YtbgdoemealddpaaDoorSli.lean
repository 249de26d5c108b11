/-
  SEALS: rows of sums that a call builds: in a row that was made, or by append. No conditions.
-/
import Derived.Test.YtbgdoemealddpaaDoorSlh
import Derived.Test.YtbgdoemealddpaaDoorSrf
namespace Go.Proofs.YtbgdoemealddpaaDoor
open Go.RowKit
set_option maxRecDepth 100000
set_option linter.unusedVariables false

theorem GRow.keepS {w w' : World} {A : Option Addr} {n : Nat} {l : List G} (h : GRow w A n l) (hs : w.heap.size ≤ w'.heap.size) (hk : ∀ b o, 0 < n → A = some ⟨b, o, none⟩ → b < w.heap.size → w'.heap[b]? = w.heap[b]?) : GRow w' A n l :=
  ⟨h.1, h.2.1, fun hn => by
    obtain ⟨b, off, e, hl, hc⟩ := h.2.2 hn
    exact ⟨b, off, e, by omega, fun i hi => (World.cell?_of_block (a := ⟨b, off + i, none⟩) (hk b off hn e hl)).trans (hc i hi)⟩⟩
/-- rows of sums in a row that was made: the first k are there -/
structure GBld (w : World) (base g n lo : Nat) (Lf : Nat → Nat) (S : Nat → List G) (k : Nat) (xs : List Value) : Prop where
  own : w.ownsRow base 56 1 (.slice (some ⟨g, 0, none⟩) n n) n xs
  rows : ∀ r, r < k → ∃ A c, xs[r]? = some (.slice A (Lf r) c) ∧ GRow w A (Lf r) (S r) ∧ Lf r ≤ c ∧ c ≤ maxLen ∧ (0 < Lf r → ∀ x, A = some x → lo ≤ x.block ∧ x.block ≠ g)
namespace GBld
variable {w w' : World} {base g n lo k : Nat} {Lf : Nat → Nat} {S : Nat → List G} {xs : List Value}
theorem lt (h : GBld w base g n lo Lf S k xs) : g < w.heap.size := (h.own.lt g rfl).2
theorem below (h : GBld w base g n lo Lf S k xs) (hb : Below w.heap.size w w') : GBld w' base g n lo Lf S k xs :=
  ⟨own_below h.own hb, fun r hr => by
    obtain ⟨A, c, h1, h2, h3⟩ := h.rows r hr
    exact ⟨A, c, h1, h2.below hb, h3⟩⟩
theorem put (h : GBld w base g n lo Lf S k xs) (hk : k < n) {A : Option Addr} {c : Nat} (hr : GRow w A (Lf k) (S k)) (h1 : Lf k ≤ c) (h2 : c ≤ maxLen) (h3 : 0 < Lf k → ∀ x, A = some x → lo ≤ x.block ∧ x.block ≠ g) :
    GBld (w.setCell ⟨g, k, none⟩ (.slice A (Lf k) c)) base g n lo Lf S (k + 1) (xs.set k (.slice A (Lf k) c)) := by
  have hl : xs.length = n := by simpa using h.own.1
  have key : ∀ {A' : Option Addr} {m : Nat} {l : List G}, GRow w A' m l → (0 < m → ∀ x, A' = some x → lo ≤ x.block ∧ x.block ≠ g) → GRow (w.setCell ⟨g, k, none⟩ (.slice A (Lf k) c)) A' m l := fun {A' m l} h4 h5 =>
    h4.keepS (by simp) fun b o hm e hb => Below.heap_setCell _ _ _ _ (h5 hm _ e).2
  refine ⟨(h.own.stored k _).1, fun r hr' => ?_⟩
  by_cases e : r = k
  · subst e
    exact ⟨A, c, by rw [List.getElem?_set_self (by omega)], key hr h3, h1, h2, h3⟩
  · obtain ⟨A', c', e1, e2, e3, e4, e5⟩ := h.rows r (by omega)
    exact ⟨A', c', by rw [List.getElem?_set_ne (fun h => e h.symm)]; exact e1, key e2 e5, e3, e4, e5⟩
theorem done (h : GBld w base g n lo Lf S n xs) : ∃ RA RC, GIn w (some ⟨g, 0, none⟩) n n RA Lf RC S ∧ ∀ r, r < n → 0 < Lf r → ∀ x, RA r = some x → lo ≤ x.block := by
  have key : ∀ r, r < n → ∃ t : Option Addr × Nat, xs[r]? = some (.slice t.1 (Lf r) t.2) ∧ GRow w t.1 (Lf r) (S r) ∧ Lf r ≤ t.2 ∧ t.2 ≤ maxLen ∧ (0 < Lf r → ∀ x, t.1 = some x → lo ≤ x.block ∧ x.block ≠ g) := fun r hr => by
    obtain ⟨A, c, h1⟩ := h.rows r hr
    exact ⟨(A, c), h1⟩
  obtain ⟨f, hf⟩ := Go.Deep.choose_lt key
  refine ⟨fun r => (f r).1, fun r => (f r).2, ⟨Nat.le_refl _, (own_shape h.own).elim fun A ⟨c, e, h1⟩ => by injection e with _ _ e; omega, fun _ => ⟨g, 0, rfl, h.lt, fun r hr => ?_⟩, fun r hr => (hf r hr).2.1, fun r hr => ⟨(hf r hr).2.2.1, (hf r hr).2.2.2.1⟩⟩, fun r hr h0 x e => ((hf r hr).2.2.2.2 h0 x e).1⟩
  rw [Nat.zero_add, h.own.cellAt r (by omega)]
  exact (hf r hr).1
end GBld
def slg (RA : Nat → Option Addr) (RL RC : Nat → Nat) : Nat → Value := fun r => .slice (RA r) (RL r) (RC r)
/-- rows of sums that are appended, one by one -/
structure GRws (w : World) (base : Nat) (A : Option Addr) (n c lo : Nat) (RA : Nat → Option Addr) (RL RC : Nat → Nat) (R : Nat → List G) : Prop where
  own : w.ownsRow base 56 1 (.slice A n c) n (vs (slg RA RL RC) n)
  rows : ∀ r, r < n → GRow w (RA r) (RL r) (R r)
  cp : ∀ r, r < n → RL r ≤ RC r ∧ RC r ≤ maxLen
  far : ∀ r, r < n → 0 < RL r → ∀ x, RA r = some x → lo ≤ x.block ∧ (Value.slice A n c).ownBlock ≠ some x.block
namespace GRws
variable {w w' : World} {base n c lo : Nat} {A : Option Addr} {RA : Nat → Option Addr} {RL RC : Nat → Nat} {R : Nat → List G}
theorem below (h : GRws w base A n c lo RA RL RC R) (hb : Below w.heap.size w w') : GRws w' base A n c lo RA RL RC R :=
  ⟨own_below h.own hb, fun r hr => (h.rows r hr).below hb, h.cp, h.far⟩
theorem gin (h : GRws w base A n c lo RA RL RC R) : GIn w A n c RA RL RC R := by
  refine ⟨(own_shape h.own).elim fun A' ⟨c', e, h1⟩ => by injection e with _ _ e; omega, (own_shape h.own).elim fun A' ⟨c', e, h1⟩ => by injection e with _ _ e; omega, fun hn => ?_, h.rows, h.cp⟩
  rcases h.own.2 with ⟨_, h0⟩ | ⟨g, cap, cur, hv, hbg, hg, _⟩
  · omega
  · injection hv with e1 _ e2
    subst e1
    refine ⟨g, 0, rfl, (Array.getElem?_eq_some_iff.1 hg).1, fun r hr => ?_⟩
    rw [Nat.zero_add, h.own.cellAt r (by omega), vs_at _ hr]
    rfl
theorem nil (w : World) (base : Nat) : GRws w base none 0 0 lo RA RL RC R := ⟨World.ownsRow_nil _ _ _ _, fun r hr => by omega, fun r hr => by omega, fun r hr => by omega⟩
theorem none_ (w : World) : ∀ {base : Nat}, base ≤ w.heap.size → GRws (w.alloc (.cells #[] 56)) base (some ⟨w.heap.size, 0, none⟩) 0 0 lo RA RL RC R := fun {base} hb =>
  ⟨World.ownsRow_made (e := 56) (size := 1) w #[] 0 hb (Nat.zero_le _) rfl, fun r hr => by omega, fun r hr => by omega, fun r hr => by omega⟩
def upd {α : Type} (f : Nat → α) (n : Nat) (x : α) : Nat → α := fun r => if r = n then x else f r
theorem upd_lt {α : Type} (f : Nat → α) {n r : Nat} (x : α) (h : r < n) : upd f n x r = f r := if_neg (by omega)
theorem upd_at {α : Type} (f : Nat → α) (n : Nat) (x : α) : upd f n x n = x := if_pos rfl
theorem push (h : GRws w base A n c lo RA RL RC R) {A' : Option Addr} {L' C' : Nat} {R' : List G} (hl : GRow w A' L' R') (h1 : L' ≤ C') (h2 : C' ≤ maxLen) (hA : 0 < L' → ∀ x, A' = some x → lo ≤ x.block ∧ (Value.slice A n c).ownBlock ≠ some x.block)
    {w1 w5 : World} {A5 : Option Addr} {c5 : Nat} (hb : Below w.heap.size w w1) (hown : w5.ownsRow base 56 1 (.slice A5 (n + 1) c5) (n + 1) (vs (slg RA RL RC) n ++ [.slice A' L' C'])) (hg : w1.grownBy w5 (Value.slice A n c).ownBlock)
    (hd : (Value.slice A5 (n + 1) c5).ownBlock = (Value.slice A n c).ownBlock ∨ ∀ g, (Value.slice A5 (n + 1) c5).ownBlock = some g → w1.heap.size ≤ g) :
    GRws w5 base A5 (n + 1) c5 lo (upd RA n A') (upd RL n L') (upd RC n C') (upd R n R') := by
  have key : ∀ {B : Option Addr} {L : Nat} {l : List G}, GRow w B L l → (0 < L → ∀ x, B = some x → lo ≤ x.block ∧ (Value.slice A n c).ownBlock ≠ some x.block) → GRow w5 B L l ∧ (0 < L → ∀ x, B = some x → lo ≤ x.block ∧ (Value.slice A5 (n + 1) c5).ownBlock ≠ some x.block) := fun {B L l} h3 h4 =>
    ⟨h3.keepS (Nat.le_trans hb.size hg.size) fun b o hm e hlt => (hg.block b (by have := hb.size; omega) (fun e2 => (h4 hm _ e).2 e2.symm)).trans (hb.block b hlt), fun hm x e => ⟨(h4 hm x e).1, by
      rcases hd with e2 | e2
      · rw [e2]; exact (h4 hm x e).2
      · intro e3
        have h5 := e2 _ e3
        obtain ⟨b, o, e4, hlt, _⟩ := h3.2.2 hm
        rw [e4] at e
        injection e with e
        subst e
        have := hb.size
        exact absurd hlt (by show ¬ b < _; have h6 : w1.heap.size ≤ b := h5; omega)⟩⟩
  have hlast : ∀ r, r < n + 1 → ¬ r < n → r = n := fun r h1 h2 => by omega
  refine ⟨?_, fun r hr => ?_, fun r hr => ?_, fun r hr => ?_⟩
  · refine cast (congrArg _ ?_) hown
    refine List.ext_getElem? fun j => ?_
    by_cases hj : j < n
    · rw [List.getElem?_append_left (by rw [vs_length]; exact hj), vs_at _ hj, vs_at _ (by omega)]
      unfold slg
      rw [upd_lt _ _ hj, upd_lt _ _ hj, upd_lt _ _ hj]
    · rw [List.getElem?_append_right (by rw [vs_length]; omega), vs_length]
      by_cases h2 : j = n
      · subst h2
        rw [Nat.sub_self, vs_at _ (by omega)]
        unfold slg
        rw [upd_at, upd_at, upd_at]
        rfl
      · rw [List.getElem?_eq_none (by simp; omega), List.getElem?_eq_none (by rw [vs_length]; omega)]
  · by_cases e : r < n
    · rw [upd_lt _ _ e, upd_lt _ _ e, upd_lt _ _ e]; exact (key (h.rows r e) (h.far r e)).1
    · obtain rfl := hlast r hr e
      rw [upd_at, upd_at, upd_at]; exact (key hl hA).1
  · by_cases e : r < n
    · rw [upd_lt _ _ e, upd_lt _ _ e]; exact h.cp r e
    · obtain rfl := hlast r hr e
      rw [upd_at, upd_at]; exact ⟨h1, h2⟩
  · by_cases e : r < n
    · rw [upd_lt _ _ e, upd_lt _ _ e]; exact (key (h.rows r e) (h.far r e)).2
    · obtain rfl := hlast r hr e
      rw [upd_at, upd_at]; exact (key hl hA).2
theorem congr (h : GRws w base A n c lo RA RL RC R) {RL' : Nat → Nat} {R' : Nat → List G} (eL : ∀ r, r < n → RL r = RL' r) (eR : ∀ r, r < n → R r = R' r) : GRws w base A n c lo RA RL' RC R' :=
  ⟨cast (congrArg _ (vs_congr fun r hr => by unfold slg; rw [eL r hr])) h.own, fun r hr => by rw [← eL r hr, ← eR r hr]; exact h.rows r hr, fun r hr => by rw [← eL r hr]; exact h.cp r hr, fun r hr h0 => h.far r hr (by rw [eL r hr]; exact h0)⟩
end GRws
theorem info_words : (Tryd.prog.info? 56).map (fun i => (i.zero, i.size, i.bytes)) = some (some (.slice none 0 0), 1, 24) := by kernel_rfl
end Go.Proofs.YtbgdoemealddpaaDoor
