/-
  THE CONTRACTS OF the unpacker's run, lengths. No conditions.
  THE CONTRACTS OF the unpacker's lengths, lengthCodes. No conditions.
  THE CONTRACT OF the unpacker's lengthCodes. No conditions.
  THE CONTRACTS OF the unpacker's dynamicCodes, block. No conditions.
-/
import Derived.Test.YthnbflkoipnakaaGreatDoorInfG
import Derived.Test.YthnbflkoipnakaaGreatDoorSym
namespace Go.Proofs.YthnbflkoipnakaaGreatDoor
section
/- InfH -/
open Go.RowKit
set_option maxRecDepth 100000
set_option linter.unusedVariables false

/-- a block that an unpacker doesn't write -/
def Apt (p r : Nat) (a : Option Nat) (B : Option Addr) : Prop := ∀ b o, B = some ⟨b, o, none⟩ → b ≠ p ∧ b ≠ r ∧ a ≠ some b
theorem UOut.irow {w w' : World} {p r n : Nat} {a b : Option Nat} {B : Option Addr} {k : IntKind} {l : List Int} (h : UOut p r a b w w') (hr : IRow w B n k l) (hB : Apt p r a B) : IRow w' B n k l := by
  refine ⟨hr.len, hr.max, fun hn => ?_, hr.wf⟩
  obtain ⟨b', o, e, hl, hc⟩ := hr.cells hn
  obtain ⟨h1, h2, h3⟩ := hB b' o e
  refine ⟨b', o, e, Nat.lt_of_lt_of_le hl h.size, fun i hi => ?_⟩
  rw [World.cell?_of_block (a := ⟨b', o + i, none⟩) (h.block b' hl h1 h2 h3)]
  exact hc i hi
section
variable {w : World} {H p r : Nat} {RA : Option Addr} {len rc : Nat} {l : List F} {A : Option Addr} {n c : Nat} {u : Un} {m : Nat} {x : Value}
end
end
section
/- InfI -/
open Go.RowKit
set_option maxRecDepth 100000
set_option linter.unusedVariables false

theorem irow_wf_lt {w : World} {A : Option Addr} {n : Nat} {l : List Int} (h : IRow w A n .i64 l) : ∀ i, i < n → (Lit.int .i64 (gi l i)).wf = true := h.wf
/-- all are lengths -/
def Small (l : List Int) : Prop := ∀ i, i < l.length → 0 ≤ gi l i ∧ gi l i ≤ 300
theorem Small.append_rep {l : List Int} (h : Small l) {y : Int} (hy : 0 ≤ y ∧ y ≤ 300) (t : Nat) : Small (l ++ List.replicate t y) := by
  intro i hi
  by_cases e : i < l.length
  · have e2 : gi (l ++ List.replicate t y) i = gi l i := by simp [gi, List.getD, List.getElem?_append, e]
    rw [e2]
    exact h i e
  · rw [List.length_append, List.length_replicate] at hi
    have e2 : gi (l ++ List.replicate t y) i = y := by simp [gi, List.getD, List.getElem?_append, e, show i - l.length < t by omega]
    rw [e2]
    exact hy
theorem Small.wf {l : List Int} (h : Small l) : ∀ i, i < l.length → (Lit.int .i64 (gi l i)).wf = true := fun i hi => by
  have h1 := h i hi
  rw [show gi l i = (((gi l i).toNat : Nat) : Int) by omega]
  exact wf_nat _ (by omega)
theorem runF_small {l : List F} {c row : List Int} {u : Un} {y : Int} {t : Nat} {u' : Un} (hc : c.length ≤ 288) (hs : Small row) (hb : ∀ s u1, symF l c u = .ok (s, u1) → s < c.length) (h : runF l c row u = .ok ((y, t), u')) : (0 ≤ y ∧ y ≤ 300) ∧ 1 ≤ t := by
  unfold runF at h
  obtain ⟨r, h1, h2⟩ := bnd_inv h
  have hlt := hb r.1 r.2 h1
  by_cases e16 : r.1 = 16
  · rw [if_pos e16] at h2
    by_cases e0 : row.length = 0
    · rw [if_pos e0] at h2; cases h2
    · rw [if_neg e0] at h2
      obtain ⟨q, _, h3⟩ := bnd_inv h2
      injection h3 with h3
      injection h3 with h3 _
      injection h3 with h3 h4
      subst h3 h4
      exact ⟨hs _ (by omega), by omega⟩
  · rw [if_neg e16] at h2
    by_cases e17 : r.1 = 17
    · rw [if_pos e17] at h2
      obtain ⟨q, _, h3⟩ := bnd_inv h2
      injection h3 with h3
      injection h3 with h3 _
      injection h3 with h3 h4
      subst h3 h4
      exact ⟨by omega, by omega⟩
    · rw [if_neg e17] at h2
      by_cases e18 : r.1 = 18
      · rw [if_pos e18] at h2
        obtain ⟨q, _, h3⟩ := bnd_inv h2
        injection h3 with h3
        injection h3 with h3 _
        injection h3 with h3 h4
        subst h3 h4
        exact ⟨by omega, by omega⟩
      · rw [if_neg e18] at h2
        injection h2 with h3
        injection h3 with h3 _
        injection h3 with h3 h4
        subst h3 h4
        exact ⟨by omega, by omega⟩
theorem symF_lt {l : List F} {c : List Int} {u : Un} {s : Nat} {u1 : Un} (ha : u.at_ ≤ 8 * l.length) (h : symF l c u = .ok (s, u1)) : s < c.length := by
  obtain ⟨k, h1, _⟩ := symF_inv h
  have h2 := rdF_ok (l := c) (b := rb l) ha
  rw [h1] at h2
  rcases h2.2 with ⟨_, _, _, h3, _⟩ | ⟨h3, _⟩ | ⟨h3, _⟩
  · exact h3
  · cases h3
  · cases h3
section
variable {w : World} {H p r : Nat} {RA : Option Addr} {len rc : Nat} {l : List F} {A : Option Addr} {n c : Nat} {u : Un} {m : Nat} {x : Value}
/-- what a call made is none of the unpacker's -/
theorem own_apt {base k ck : Nat} {B : Option Addr} {e : TypeId} {xs : List Value} {a : Option Nat} {W : World} (h : W.ownsRow base e 1 (.slice B k ck) k xs) (hp : p < base) (hr : r < base) (ha : ∀ g, a = some g → g < base) : Apt p r a B := fun b o e => by
  have := (own_ne h hp) b o e
  have := (own_ne h hr) b o e
  exact ⟨by assumption, by assumption, fun e2 => (own_ne h (ha b e2)) b o e rfl⟩
theorem own_uout {base k : Nat} {v : Value} {e : TypeId} {xs : List Value} {a b : Option Nat} {W W' : World} (h : W.ownsRow base e 1 v k xs) (ho : UOut p r a b W W') (hp : p < base) (hr : r < base) (ha : ∀ g, a = some g → g < base) : W'.ownsRow base e 1 v k xs := by
  refine ⟨h.1, ?_⟩
  rcases h.2 with hn | ⟨g, cap, cur, hv, hbg, hg, rest⟩
  · exact .inl hn
  · exact .inr ⟨g, cap, cur, hv, hbg, (ho.block g (Array.getElem?_eq_some_iff.1 hg).1 (by omega) (by omega) (fun e2 => by have := ha g e2; omega)).trans hg, rest⟩
theorem UOut.thenB {p r : Nat} {a b : Option Nat} {w w' w'' : World} (h : UOut p r a b w w') (hb : Below w.heap.size w' w'') : UOut p r a b w w'' :=
  ⟨hb.os.trans h.os, hb.tape.trans h.tape, hb.output.trans h.output, Nat.le_trans h.size hb.size, fun k hk hp hr ha => (hb.block k hk).trans (h.block k hk hp hr ha), h.nw⟩
end
end
section
/- InfJ -/
open Go.RowKit
set_option maxRecDepth 100000
set_option linter.unusedVariables false

theorem ordN_at {i : Nat} (h : i < 19) : gi ordL i = ((ordN.getD i 0 : Nat) : Int) ∧ ordN.getD i 0 < 19 := by
  have : ∀ i, i < 19 → gi ordL i = ((ordN.getD i 0 : Nat) : Int) ∧ ordN.getD i 0 < 19 := by decide +kernel
  exact this i h
theorem ordN_drop {i k : Nat} (h : i < k) (hk : k ≤ 19) : (ordN.take k).drop i = ordN.getD i 0 :: (ordN.take k).drop (i + 1) := by
  have : ∀ k, k < 20 → ∀ i, i < k → (ordN.take k).drop i = ordN.getD i 0 :: (ordN.take k).drop (i + 1) := by decide +kernel
  exact this k (by omega) i h
theorem ordN_end (k : Nat) (hk : k ≤ 19) : (ordN.take k).drop k = [] := List.drop_of_length_le (by simp [ordN]; omega)
theorem iC_set (l : List Int) (i : Nat) (v : Int) : (iC l).set i (.int .i64 v) = iC (l.set i v) := by
  unfold iC
  rw [List.map_set]
theorem Small.set {l : List Int} (h : Small l) {v : Int} (hv : 0 ≤ v ∧ v ≤ 300) (i : Nat) : Small (l.set i v) := by
  intro j hj
  rw [List.length_set] at hj
  by_cases e : j = i
  · subst e
    have e2 : gi (l.set j v) j = v := by simp [gi, hj]
    rw [e2]; exact hv
  · have e2 : gi (l.set i v) j = gi l j := by simp [gi, List.getD, Ne.symm e]
    rw [e2]; exact h j hj
section
variable {w : World} {H p r : Nat} {RA : Option Addr} {len rc : Nat} {l : List F} {A : Option Addr} {n c : Nat} {u : Un} {m : Nat} {x : Value}
end
end
section
/- InfK -/
open Go.RowKit
set_option maxRecDepth 100000
set_option linter.unusedVariables false

theorem IRow.sub {w : World} {b o n i j : Nat} {k : IntKind} {l : List Int} (h : IRow w (some ⟨b, o, none⟩) n k l) (hij : i + j ≤ n) : IRow w (some ⟨b, o + i, none⟩) j k ((l.drop i).take j) := by
  have hl := h.len
  have hg : ∀ x, x < j → gi ((l.drop i).take j) x = gi l (i + x) := fun x hx => by simp [gi, List.getD, hx, List.getElem?_drop]
  refine ⟨by simp; omega, by have := h.max; omega, fun hn => ?_, fun x hx => ?_⟩
  · obtain ⟨b', o', e, hlt, hc⟩ := h.cells (by omega)
    injection e with e
    injection e with e1 e2 _
    subst e1 e2
    refine ⟨b, o + i, rfl, hlt, fun x hx => ?_⟩
    rw [hg x hx, Nat.add_assoc]
    exact hc (i + x) (by omega)
  · rw [hg x hx]
    exact h.wf (i + x) (by omega)
theorem own_bound {w : World} {base n c : Nat} {e : TypeId} {A : Option Addr} {xs : List Value} (h : w.ownsRow base e 1 (.slice A n c) n xs) : n ≤ c ∧ c ≤ 9223372036854775807 := by
  obtain ⟨A', c', hv, h1, h2⟩ := own_shape h
  injection hv with _ _ hc
  subst hc
  exact ⟨h1, by unfold maxLen at h2; exact h2⟩
/-- what is wrong with two rows of lengths -/
def CErr (ls ds : List Int) (z : Nat) : Prop := z = errC ls ls.length ∧ errC ls ls.length ≠ 0 ∨ errC ls ls.length = 0 ∧ z = errC ds ds.length ∧ errC ds ds.length ≠ 0
theorem blockF_err {l : List F} {m : Nat} {ls ds : List Int} {u : Un} {z : Nat} (h : CErr ls ds z) : blockF l m ls ds u = .error z := by
  unfold blockF
  rcases h with ⟨rfl, h⟩ | ⟨h0, rfl, h⟩
  · rw [if_pos h]
  · rw [if_neg (by omega), if_pos h]
theorem blockF_ok {l : List F} {m : Nat} {ls ds : List Int} {u : Un} (h1 : errC ls ls.length = 0) (h2 : errC ds ds.length = 0) : blockF l m ls ds u = codedF l m ls ds u := by
  unfold blockF
  rw [if_neg (by omega), if_neg (by omega)]
section
variable {w : World} {H p r : Nat} {RA : Option Addr} {len rc : Nat} {l : List F} {A : Option Addr} {n c : Nat} {u : Un} {m : Nat} {x : Value}
end
end
end Go.Proofs.YthnbflkoipnakaaGreatDoor
