/-
  THE CONTRACTS OF block's runsOf. No conditions.
-/
import Derived.Test.YthnbflkoipnakaaGreatDoorBlkg
namespace Go.Proofs.YthnbflkoipnakaaGreatDoor
open Go.RowKit
set_option maxRecDepth 1000000
set_option linter.unusedVariables false

/-- a run: its symbol, how many further bits, their number, and of how many lengths it is -/
structure Rn where
  s : Nat
  z : Nat
  v : Nat
  c : Nat
/-- the first lengths as runs -/
inductive RTo (l : List Int) (n : Nat) : List Rn → Nat → Prop
  | nil : RTo l n [] 0
  | snoc {R : List Rn} {a : Nat} (r : Rn) : RTo l n R a → RunOk l n a r.s r.z r.v r.c → RTo l n (R ++ [r]) (a + r.c)
def rnC (R : List Rn) : List Value := R.flatMap fun r => [.int .i64 r.s, .int .i64 r.z, .int .i64 r.v]
theorem rnC_snoc (R : List Rn) (r : Rn) : rnC (R ++ [r]) = rnC R ++ [.int .i64 r.s, .int .i64 r.z, .int .i64 r.v] := by simp [rnC]
theorem rnC_length (R : List Rn) : (rnC R).length = R.length * 3 := by
  induction R with
  | nil => rfl
  | cons r R ih =>
    show ([Value.int .i64 r.s, .int .i64 r.z, .int .i64 r.v] ++ rnC R).length = _
    rw [List.length_append, ih, List.length_cons]
    simp
    omega
theorem info_run : (Tryz.prog.info? 101).map (fun i => (i.zero, i.size, i.bytes)) = some (some (.agg #[.int .i64 0, .int .i64 0, .int .i64 0]), 3, 24) := by kernel_rfl
theorem own_bel {w w' : World} {base n size : Nat} {e : TypeId} {v : Value} {xs : List Value} (h : w.ownsRow base e size v n xs) (hb : Below w.heap.size w w') : w'.ownsRow base e size v n xs := by
  have hg : w.grownBy w' (some w.heap.size) := ⟨hb.os, hb.tape, hb.output, hb.size, fun k hk _ => hb.block k hk⟩
  exact h.kept hg (.inr fun e => by have := (h.lt _ e).2; omega)
theorem own_shapeR {w : World} {base n size : Nat} {e : TypeId} {v : Value} {xs : List Value} (h : w.ownsRow base e size v n xs) : ∃ A c, v = .slice A n c := by
  rcases h.2 with ⟨rfl, rfl⟩ | ⟨g, cap, _, rfl, _⟩
  · exact ⟨none, 0, rfl⟩
  · exact ⟨_, cap, rfl⟩
theorem cellsR (w : World) (a b c : Value) (t : TypeId) : ∀ j u, [a, b, c][j]? = some u → (w.alloc (.cells #[a, b, c] t)).cell? ((⟨w.heap.size, 0, none⟩ : Addr).add j) = some u := by
  have h := World.news_of_block (cs := #[a, b, c]) (t := t) (fr := (0, 0)) (heap_alloc_new w (.cells #[a, b, c] t))
  exact h
theorem cellsR2 (w : World) (o : Obj) (a b c : Value) (t : TypeId) : ∀ j u, [a, b, c][j]? = some u → ((w.alloc o).alloc (.cells #[a, b, c] t)).cell? ((⟨w.heap.size + 1, 0, none⟩ : Addr).add j) = some u := by
  have h := cellsR (w.alloc o) a b c t
  rw [World.size_alloc] at h
  exact h
theorem oneR (s z v : Nat) : ∀ u ∈ [Value.int .i64 s, .int .i64 z, .int .i64 v], u.oneCell' = true := by
  intro u hu
  simp at hu
  rcases hu with rfl | rfl | rfl <;> rfl
set_option maxHeartbeats 4000000 in
theorem runsOf_c (A : Option Addr) (n c : Nat) (l : List Int) (w : World) (h : IRow w A n .i64 l) (hn : n ≤ 1000) (hr : ∀ i, i < n → 0 ≤ gi l i ∧ gi l i ≤ 15) :
    Calls Tryz.prog 70 #[.slice A n c] w fun e w' => ∃ A' k c' R, e = .returned (.slice A' k c') ∧ R.length = k ∧ k ≤ n ∧ RTo l n R n ∧ w'.ownsRow w.heap.size 101 3 (.slice A' k c') k (rnC R) ∧ Below w.heap.size w w' := by
  obtain ⟨i0, hi, hz0, hz1, hz2⟩ := info_parts info_run
  have H := Lib.hid h
  have HR := Lib.hid hr
  clear h hr
  go_enter Tryz.func70, Tryz.ntmps70
  go_wp2
  go_loopw [3, 4] (fun av cv wr => ∃ (a k c' : Nat) (A' : Option Addr) (R : List Rn), a ≤ n ∧ cv = .int .i64 a ∧ av = .slice A' k c' ∧ Hid (R.length = k) ∧ Hid (RTo l n R a) ∧ k ≤ a ∧ Hid (wr.ownsRow w.heap.size 101 3 (.slice A' k c') k (rnC R)) ∧ Hid (Below w.heap.size w wr)) (fun _ cv _ => n - (intOf cv).toNat)
  case atStart => exact ⟨0, 0, 0, none, [], by omega, rfl, rfl, rfl, RTo.nil, by omega, World.ownsRow_nil _ _ _ _, Below.refl _ _⟩
  case round =>
    obtain ⟨a, k, c', A', R, han, rfl, rfl, hRk, hRT, hka, hown, hb⟩ := hrel
    by_cases hlt : a < n
    · have hlti : (a : Int) < (n : Int) := by omega
      go_wp2_with fail
      refine (nextRun_c A n c l wr (H.out.below hb.out) (by omega) HR.out a hlt).mono ?_
      rintro e w2 ⟨s, z, v, q, rfl, hok, hb2⟩
      have HB2 := Lib.hid (hb.out.trans (hb2.mono hb.out.size))
      have HO2 := Lib.hid (own_bel hown.out hb2)
      have hfit := hok.fits
      have hpos := hok.pos
      have HRT2 : Hid (RTo l n (R ++ [⟨s, z, v, q⟩]) (a + q)) := RTo.snoc ⟨s, z, v, q⟩ hRT.out hok
      clear hok hb2 hown hRT
      go_wp2_with (at_builtin; refine wpList_append_own _ rfl (.tmp 17) (.tmp 19) 98 rfl w.heap.size 101 i0 (.agg #[.int .i64 0, .int .i64 0, .int .i64 0]) 3 24 Tryz.underlying98 hi hz0 hz1 hz2 rfl (by decide) (.slice A' k c') k (rnC R) rfl ((HO2.out.alloc _).alloc _) ⟨w2.heap.size + 1, 0, none⟩ 1 1 [.int .i64 s, .int .i64 z, .int .i64 v] rfl rfl (cellsR2 w2 _ _ _ _ _) (oneR s z v) (by unfold maxLen; omega) (by omega) (by have := HB2.out.size; simp; omega) ?_; intro v5 w5 hown5 hgrow5 hnil5; clear hnil5; obtain ⟨A5, c5, rfl⟩ := own_shapeR hown5)
      have HO5 : Hid (w5.ownsRow w.heap.size 101 3 (.slice A5 (k + 1) c5) (k + 1) (rnC (R ++ [⟨s, z, v, q⟩]))) := by
        rw [rnC_snoc]
        exact hown5
      have HB5 : Hid (Below w.heap.size w w5) := ((HB2.out.alloc HB2.out.size _).alloc (by have := HB2.out.size; simp; omega) _).grown hgrow5 (by have := HB2.out.size; simp; omega) (fun x hx => (HO2.out.lt x hx).1)
      have HLEN : Hid ((R ++ [(⟨s, z, v, q⟩ : Rn)]).length = k + 1) := by unfold Hid; rw [List.length_append, hRk.out]; rfl
      clear hown5 hgrow5
      go_roundw
      case rel => exact ⟨a + q, k + 1, c5, A5, R ++ [⟨s, z, v, q⟩], by omega, by go_num, rfl, HLEN, HRT2, by omega, HO5, HB5⟩
      case measure => simp [intOf]; omega
    · obtain rfl : a = n := by omega
      have hlti : ¬ (a : Int) < (a : Int) := by omega
      go_wp2
      go_ret
      exact ⟨A', k, c', rfl, R, hRk.out, by omega, hRT.out, hown.out, hb.out⟩
end Go.Proofs.YthnbflkoipnakaaGreatDoor
