/-
  THE CONTRACT OF the unpacker's block. No conditions.
  THE CONTRACTS OF inflate's Unpack, All. No conditions.
  THE CONTRACT OF inflate's All; the law's own examples. No conditions.
-/
import Derived.Test.YthnbflkoipnakaaGreatDoorInfH
import Derived.Defers
import Derived.Recover
import Derived.RegionTactic
namespace Go.Proofs.YthnbflkoipnakaaGreatDoor
section
/- InfM -/
open Go.RowKit
set_option maxRecDepth 100000
set_option linter.unusedVariables false

section
variable {w : World} {H p r : Nat} {RA : Option Addr} {len rc : Nat} {l : List F} {A : Option Addr} {n c : Nat} {u : Un} {m : Nat} {x : Value}
theorem last_of (v : Nat) : decide (v ≠ 0) = !((v : Int) == 0) := by
  by_cases h : v = 0
  · subst h; rfl
  · rw [decide_eq_true h]
    have : ((v : Int) == 0) = false := by rw [beq_eq_false_iff_ne]; omega
    rw [this]; rfl
end
end
section
/- InfN -/
open Go.RowKit
set_option maxRecDepth 100000
set_option linter.unusedVariables false

theorem assert_errno (k : Nat) (w : World) : (Instr.typeAssert (.iface 28 (.int .i64 k)) 20 28 false).run Tryz.prog w = .ok (.int .i64 k) w := by kernel_rfl
/-- what a packed row is, how many bytes it takes; or the error -/
def UnpEnd (w : World) (R : Except Nat Un) (e : Ending) (w' : World) : Prop :=
  (∃ z : Nat, R = .error z ∧ e = .returned (.tuple #[.slice none 0 0, .int .i64 0, .int .i64 z]) ∧ Below w.heap.size w w') ∨
  (∃ (u : Un) (A : Option Addr) (n c : Nat), R = .ok u ∧ e = .returned (.tuple #[.slice A n c, .int .i64 (((u.at_ + 7) / 8 : Nat) : Int), .int .i64 0]) ∧ w'.ownsRow w.heap.size 5 1 (.slice A n c) n (cs u.out) ∧ Below w.heap.size w w')
end
section
/- InfO -/
open Go.RowKit
set_option maxRecDepth 100000
set_option linter.unusedVariables false

/-- what bytes are, if nothing stands behind -/
def allF (l : List F) (M : Nat) : Except Nat (List F) := bnd (unpF l M) fun u => if (u.at_ + 7) / 8 < l.length then .error 22 else .ok u.out
def AllEnd (w : World) (R : Except Nat (List F)) (e : Ending) (w' : World) : Prop :=
  (∃ z : Nat, R = .error z ∧ e = .returned (.tuple #[.slice none 0 0, .int .i64 z]) ∧ Below w.heap.size w w') ∨
  (∃ (o : List F) (A : Option Addr) (n c : Nat), R = .ok o ∧ e = .returned (.tuple #[.slice A n c, .int .i64 0]) ∧ w'.ownsRow w.heap.size 5 1 (.slice A n c) n (cs o) ∧ Below w.heap.size w w')
/-- an error is none of 0 -/
def NZ {α : Type} (x : Except Nat α) : Prop := ∀ z, x = .error z → z ≠ 0
namespace NZ
variable {α β : Type}
theorem bd {p : Except Nat α} {g : α → Except Nat β} (h : NZ p) (hg : ∀ x, NZ (g x)) : NZ (bnd p g) := by
  cases p with
  | error e => intro z hz; injection hz with hz; subst hz; exact h _ rfl
  | ok x => exact hg x
theorem er {z : Nat} (h : z ≠ 0) : NZ (.error z : Except Nat α) := fun y hy => by injection hy with hy; subst hy; exact h
theorem pu (x : α) : NZ (.ok x) := fun z h => by cases h
theorem it {c : Prop} [Decidable c] {p q : Except Nat α} (h1 : c → NZ p) (h2 : ¬ c → NZ q) : NZ (if c then p else q) := by
  by_cases e : c
  · rw [if_pos e]; exact h1 e
  · rw [if_neg e]; exact h2 e
theorem num (l : List F) (s : Nat) (u : Un) : NZ (numF l s u) := it (fun _ => pu _) fun _ => er (by decide)
theorem sym (l : List F) (c : List Int) (u : Un) : NZ (symF l c u) := it (fun _ => pu _) fun h => er h
theorem put (m : Nat) (x : F) (u : Un) : NZ (putF m x u) := it (fun _ => pu _) fun _ => er (by decide)
theorem ag (m d k : Nat) : ∀ u, NZ (agF m d k u) := by
  induction k with
  | zero => exact fun u => pu _
  | succ k ih => exact fun u => bd (put _ _ _) ih
theorem mea (l : List F) (b s : Nat) (ok : Bool) (u : Un) : NZ (meantF l b s ok u) := it (fun _ => bd (num _ _ _) fun _ => pu _) fun _ => er (by decide)
theorem mat (l : List F) (m : Nat) (ds : List Int) (s : Nat) (u : Un) : NZ (matchF l m ds s u) :=
  bd (mea _ _ _ _ _) fun _ => bd (sym _ _ _) fun _ => bd (mea _ _ _ _ _) fun _ => it (fun _ => er (by decide)) fun _ => ag _ _ _ _
theorem step (l : List F) (m : Nat) (ls ds : List Int) (u : Un) : NZ (stepF l m ls ds u) :=
  bd (sym _ _ _) fun _ => it (fun _ => pu _) fun _ => bd (it (fun _ => put _ _ _) fun _ => mat _ _ _ _ _) fun _ => pu _
theorem loop {tot : Nat} {f : Un → Except Nat (Bool × Un)} (hf : ∀ u, NZ (f u)) : ∀ n u, tot - u.at_ ≤ n → NZ (loopF tot f u) := by
  intro n
  induction n with
  | zero =>
    intro u hn
    rw [loopF]
    split
    · rename_i e he; exact er (hf u e he)
    · exact pu _
    · rw [dif_neg (by omega)]; exact er (by decide)
  | succ n ih =>
    intro u hn
    rw [loopF]
    split
    · rename_i e he; exact er (hf u e he)
    · exact pu _
    · by_cases e : u.at_ < (‹Un› : Un).at_ ∧ (‹Un› : Un).at_ ≤ tot
      · rw [dif_pos e]; exact ih _ (by omega)
      · rw [dif_neg e]; exact er (by decide)
theorem blk (l : List F) (m : Nat) (ls ds : List Int) (u : Un) : NZ (blockF l m ls ds u) := it (fun h => er h) fun _ => it (fun h => er h) fun _ => loop (step l m ls ds) _ u (Nat.le_refl _)
theorem rn (l : List F) (c row : List Int) (u : Un) : NZ (runF l c row u) :=
  bd (sym _ _ _) fun _ => it (fun _ => it (fun _ => er (by decide)) fun _ => bd (num _ _ _) fun _ => pu _) fun _ => it (fun _ => bd (num _ _ _) fun _ => pu _) fun _ => it (fun _ => bd (num _ _ _) fun _ => pu _) fun _ => pu _
theorem lens (l : List F) (c : List Int) (many f : Nat) : ∀ row u, NZ (lensF l c many f row u) := by
  induction f with
  | zero => exact fun row u => er (by decide)
  | succ f ih => exact fun row u => it (fun _ => pu _) fun _ => bd (rn _ _ _ _) fun _ => it (fun _ => er (by decide)) fun _ => ih _ _
theorem own (l : List F) (o : List Nat) : ∀ w u, NZ (ownF l o w u) := by
  induction o with
  | nil => exact fun w u => pu _
  | cons s r ih => exact fun w u => bd (num _ _ _) fun _ => ih _ _
theorem dyn (l : List F) (m : Nat) (u : Un) : NZ (dynF l m u) :=
  bd (bd (num _ _ _) fun _ => bd (num _ _ _) fun _ => bd (num _ _ _) fun _ => it (fun _ => er (by decide)) fun _ => bd (own _ _ _ _) fun _ => it (fun h => er h) fun _ => bd (lens _ _ _ _ _ _) fun _ => it (fun _ => er (by decide)) fun _ => pu _) fun _ => blk _ _ _ _ _
theorem sto (l : List F) (m : Nat) (u : Un) : NZ (stoF l m u) :=
  it (fun _ => er (by decide)) fun _ => it (fun _ => er (by decide)) fun _ => it (fun _ => it (fun _ => er (by decide)) fun _ => er (by decide)) fun _ => it (fun _ => er (by decide)) fun _ => pu _
theorem unb (l : List F) (m : Nat) (u : Un) : NZ (unbF l m u) :=
  bd (num _ _ _) fun _ => bd (num _ _ _) fun _ => bd (it (fun _ => sto _ _ _) fun _ => it (fun _ => blk _ _ _ _ _) fun _ => it (fun _ => dyn _ _ _) fun _ => er (by decide)) fun _ => pu _
end NZ
theorem unpF_no0 {l : List F} {M z : Nat} (h : unpF l M = .error z) : z ≠ 0 := NZ.loop (NZ.unb l M) _ ⟨0, []⟩ (Nat.le_refl _) z h
def exA : List F := [ofN 1, ofN 1, ofN 0, ofN 254, ofN 255, ofN 65, ofN 9]
def exB : List F := [ofN 1, ofN 1, ofN 0, ofN 254, ofN 255, ofN 65]
def exC : List F := [ofN 115, ofN 4, ofN 0]
theorem exA_un : unpF exA 5 = .ok ⟨48, [ofN 65]⟩ := loopF_done (by kernel_rfl)
theorem ex7_un : unpF [ofN 7] 5 = .error 32 := loopF_error (by kernel_rfl)
theorem exA_all : allF exA 5 = .error 22 := by unfold allF; rw [exA_un]; rfl
theorem exB_all : allF exB 0 = .error 6 := by
  have h : unpF exB 0 = .error 6 := loopF_error (by kernel_rfl)
  unfold allF; rw [h]; rfl
theorem exC_un : unpF exC 9 = .ok ⟨18, [ofN 65]⟩ := by
  have h1 : stepF exC 9 fixL fixD ⟨3, []⟩ = .ok (false, ⟨11, [ofN 65]⟩) := by kernel_rfl
  have h2 : stepF exC 9 fixL fixD ⟨11, [ofN 65]⟩ = .ok (true, ⟨18, [ofN 65]⟩) := by kernel_rfl
  have h3 : codedF exC 9 fixL fixD ⟨3, []⟩ = .ok ⟨18, [ofN 65]⟩ := (loopF_more h1 (by decide) (by decide)).trans (loopF_done h2)
  refine loopF_done ?_
  have h4 : numF exC 1 ⟨0, []⟩ = .ok (1, ⟨1, []⟩) := by kernel_rfl
  have h5 : numF exC 2 ⟨1, []⟩ = .ok (1, ⟨3, []⟩) := by kernel_rfl
  unfold unbF
  rw [h4, bnd_ok, h5, bnd_ok, if_neg (by decide), if_pos rfl, blockF_ok fix_ok.1 fix_ok.2, h3]
  rfl
theorem exC_all : allF exC 9 = .ok [ofN 65] := by unfold allF; rw [exC_un]; rfl
end
end Go.Proofs.YthnbflkoipnakaaGreatDoor
