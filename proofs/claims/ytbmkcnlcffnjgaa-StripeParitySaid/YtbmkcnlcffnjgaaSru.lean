/-
  STRIPES: rows that grow, in a row of rows; the document's Row. No conditions but on how many columns there are.
-/
import Derived.Test.YtbmkcnlcffnjgaaSrm
import Derived.Test.YtbmkcnlcffnjgaaSrp
namespace Go.Proofs.Ytbmkcnlcffnjgaa
open Go.RowKit
set_option maxRecDepth 100000
set_option linter.unusedVariables false

theorem own_kept23 {w w' : World} {base n : Nat} {e : TypeId} {v : Value} {xs : List Value} {row : Option Nat} (h : w.ownsRow base e 1 v n xs) (hg : w.grownBy w' row) (hne : ∀ g, v.ownBlock = some g → row ≠ some g) : w'.ownsRow base e 1 v n xs := by
  refine ⟨h.1, ?_⟩
  rcases h.2 with hn | ⟨g, cap, cur, rfl, hb, hgc, rest⟩
  · exact .inl hn
  · exact .inr ⟨g, cap, cur, rfl, hb, (hg.block g (Array.getElem?_eq_some_iff.1 hgc).1 (fun e => hne g rfl e.symm)).trans hgc, rest⟩
structure Grw (w : World) (base g n k c : Nat) (f : Nat → Value) (G Lc K : Nat → Nat) (M : Nat → Nat → F) : Prop where
  own : w.ownsRow base 22 1 (.slice (some ⟨g, 0, none⟩) (n + k) c) (n + k) (vs f (n + k))
  row : ∀ j, j < k → f (n + j) = .slice (some ⟨G j, 0, none⟩) (Lc j) (K j) ∧ w.ownsRow base 5 1 (.slice (some ⟨G j, 0, none⟩) (Lc j) (K j)) (Lc j) (cs (mkF (M j) (Lc j))) ∧ G j ≠ g
  inj : ∀ i j, i < k → j < k → G i = G j → i = j
namespace Grw
variable {w w' : World} {base g n k c : Nat} {f : Nat → Value} {G Lc K : Nat → Nat} {M : Nat → Nat → F}
theorem below (h : Grw w base g n k c f G Lc K M) (hb : Below w.heap.size w w') : Grw w' base g n k c f G Lc K M :=
  ⟨(Out.ofBelow (lo := 0) (hi := 0) hb).own h.own (Nat.zero_le _), fun j hj => ⟨(h.row j hj).1, (Out.ofBelow (lo := 0) (hi := 0) hb).own (h.row j hj).2.1 (Nat.zero_le _), (h.row j hj).2.2⟩, h.inj⟩
theorem lt (h : Grw w base g n k c f G Lc K M) {j : Nat} (hj : j < k) : base ≤ G j ∧ G j < w.heap.size := (h.row j hj).2.1.lt (G j) rfl
theorem glt (h : Grw w base g n k c f G Lc K M) : base ≤ g ∧ g < w.heap.size := h.own.lt g rfl
/-- a row more, of no bytes -/
theorem more (h : Grw w base g n k c f G Lc K M) {w2 w5 : World} {H g5 c5 : Nat} (hH : w.heap.size ≤ H) (hb2 : Below w.heap.size w w2) (hbase : base ≤ H) (hnew : w2.ownsRow base 5 1 (.slice (some ⟨H, 0, none⟩) 0 0) 0 []) (hlt : H < w2.heap.size)
    (hown : w5.ownsRow base 22 1 (.slice (some ⟨g5, 0, none⟩) (n + k + 1) c5) (n + k + 1) (vs f (n + k) ++ [.slice (some ⟨H, 0, none⟩) 0 0])) (hg : w2.grownBy w5 (some g)) (hat : g5 = g ∨ g5 = w2.heap.size) :
    Grw w5 base g5 n (k + 1) c5 (fun r => if r < n + k then f r else .slice (some ⟨H, 0, none⟩) 0 0) (fun j => if j = k then H else G j) (fun j => if j = k then 0 else Lc j) (fun j => if j = k then 0 else K j) M := by
  have hgl := h.glt
  have hs2 := hb2.size
  refine ⟨?_, fun j hj => ?_, fun i j hi hj e => ?_⟩
  · have e := vs_append (f := f) (h := fun _ => .slice (some ⟨H, 0, none⟩) 0 0) (n + k) 1
    rw [show vs (fun _ => Value.slice (some ⟨H, 0, none⟩) 0 0) 1 = [.slice (some ⟨H, 0, none⟩) 0 0] from rfl] at e
    rw [e] at hown
    exact hown
  · by_cases e : j = k
    · subst e
      rw [if_neg (show ¬ n + j < n + j by omega), if_pos rfl, if_pos rfl, if_pos rfl]
      refine ⟨rfl, own_kept23 hnew hg (fun x hx e2 => absurd (Option.some.inj (show some g = some H from e2.trans hx.symm)) (by omega)), ?_⟩
      rcases hat with rfl | rfl
      · omega
      · omega
    · have hjk : j < k := by omega
      have hl := h.lt hjk
      simp only [if_neg e, if_pos (show n + j < n + k by omega)]
      refine ⟨(h.row j hjk).1, own_kept23 ((Out.ofBelow (lo := 0) (hi := 0) hb2).own (h.row j hjk).2.1 (Nat.zero_le _)) hg (fun x hx e2 => absurd (Option.some.inj (show some g = some (G j) from e2.trans hx.symm)) (fun y => (h.row j hjk).2.2 y.symm)), ?_⟩
      rcases hat with rfl | rfl
      · exact (h.row j hjk).2.2
      · omega
  · by_cases ei : i = k
    · by_cases ej : j = k
      · omega
      · simp only [if_pos ei, if_neg ej] at e
        have := h.lt (show j < k by omega)
        omega
    · by_cases ej : j = k
      · simp only [if_pos ej, if_neg ei] at e
        have := h.lt (show i < k by omega)
        omega
      · simp only [if_neg ei, if_neg ej] at e
        exact h.inj i j (by omega) (by omega) e
/-- a byte more in a row -/
theorem step (h : Grw w base g n k c f G Lc K M) {j : Nat} (hj : j < k) {w2 w5 : World} {g5 c5 : Nat} {x : F} (hb2 : Below w.heap.size w w2)
    (hown : w5.ownsRow base 5 1 (.slice (some ⟨g5, 0, none⟩) (Lc j + 1) c5) (Lc j + 1) (cs (mkF (M j) (Lc j)) ++ [.int .u8 x.n])) (hg : w2.grownBy w5 (some (G j))) (hat : g5 = G j ∨ g5 = w2.heap.size) :
    Grw (w5.setCell ⟨g, n + j, none⟩ (.slice (some ⟨g5, 0, none⟩) (Lc j + 1) c5)) base g n k c (fun r => if r = n + j then .slice (some ⟨g5, 0, none⟩) (Lc j + 1) c5 else f r) (fun i => if i = j then g5 else G i) (fun i => if i = j then Lc j + 1 else Lc i) (fun i => if i = j then c5 else K i) (fun i a => if i = j ∧ a = Lc j then x else M i a) := by
  have hgl := h.glt
  have hs2 := hb2.size
  have hgj := h.row j hj
  have hne5 : g5 ≠ g := by
    rcases hat with rfl | rfl
    · exact hgj.2.2
    · omega
  have hown5 : w5.ownsRow base 22 1 (.slice (some ⟨g, 0, none⟩) (n + k) c) (n + k) (vs f (n + k)) := own_kept23 ((Out.ofBelow (lo := 0) (hi := 0) hb2).own h.own (Nat.zero_le _)) hg (fun y hy e2 => hgj.2.2 (Option.some.inj (show some (G j) = some g from e2.trans hy.symm)))
  refine ⟨?_, fun i hi => ?_, fun i i' hi hi' e => ?_⟩
  · have h1 := (hown5.stored (n + j) (.slice (some ⟨g5, 0, none⟩) (Lc j + 1) c5)).1
    rw [vs_set (g := fun r => if r = n + j then .slice (some ⟨g5, 0, none⟩) (Lc j + 1) c5 else f r) (fun r hr => rfl)] at h1
    exact h1
  · by_cases e : i = j
    · subst e
      rw [if_pos rfl, if_pos rfl, if_pos rfl, if_pos rfl]
      refine ⟨rfl, own_kept23 ?_ (setCell_grown w5 g (n + i) _) (fun y hy e2 => absurd (Option.some.inj (show some g = some g5 from e2.trans hy.symm)) (fun y => hne5 y.symm)), hne5⟩
      have e3 : cs (mkF (fun a => if i = i ∧ a = Lc i then x else M i a) (Lc i + 1)) = cs (mkF (M i) (Lc i)) ++ [.int .u8 x.n] := by
        rw [mkF_snoc, cs_append]
        congr 1
        · congr 1
          refine ext_gt (by rw [mkF_length, mkF_length]) fun a ha => ?_
          rw [mkF_length] at ha
          rw [gt_mkF, gt_mkF, if_pos ha, if_pos ha, if_neg (by omega)]
        · show cs [if i = i ∧ Lc i = Lc i then x else M i (Lc i)] = _
          rw [if_pos ⟨rfl, rfl⟩]
          rfl
      rw [e3]
      exact hown
    · simp only [if_neg e, if_neg (show ¬ n + i = n + j by omega)]
      have h1 := own_kept23 (own_kept23 ((Out.ofBelow (lo := 0) (hi := 0) hb2).own (h.row i hi).2.1 (Nat.zero_le _)) hg (fun y hy e2 => e (h.inj i j hi hj (Option.some.inj (show some (G j) = some (G i) from e2.trans hy.symm)).symm))) (setCell_grown w5 g (n + j) (.slice (some ⟨g5, 0, none⟩) (Lc j + 1) c5)) (fun y hy e2 => (h.row i hi).2.2 (Option.some.inj (show some g = some (G i) from e2.trans hy.symm)).symm)
      refine ⟨(h.row i hi).1, ?_, (h.row i hi).2.2⟩
      have e4 : (fun a => if i = j ∧ a = Lc j then x else M i a) = M i := by
        funext a
        rw [if_neg (fun y => e y.1)]
      rw [e4]
      exact h1
  · by_cases ei : i = j
    · by_cases ej : i' = j
      · omega
      · simp only [if_pos ei, if_neg ej] at e
        rcases hat with h2 | h2
        · exact absurd (h.inj j i' hj hi' (h2.symm.trans e)) (fun y => ej y.symm)
        · have := h.lt hi'
          omega
    · by_cases ej : i' = j
      · simp only [if_pos ej, if_neg ei] at e
        rcases hat with h2 | h2
        · exact absurd (h.inj i j hi hj (e.trans h2)) ei
        · have := h.lt hi
          omega
      · simp only [if_neg ei, if_neg ej] at e
        exact h.inj i i' hi hi' e
end Grw
set_option maxHeartbeats 1000000 in
theorem Row23_c {w : World} {A : Option Addr} {n cap : Nat} {RA : Nat → Option Addr} {RL RC : Nat → Nat} {R : Nat → List F} (h : MIn w A n cap RA RL RC R) {a : Nat} (ha : ∀ r, r < n → a < RL r) (hn : n ≤ 255) :
    Calls Try.prog 35 #[.slice A n cap, .int .i64 a] w fun e w' => ∃ g c, e = .returned (.slice (some ⟨g, 0, none⟩) n c) ∧ w'.ownsRow w.heap.size 5 1 (.slice (some ⟨g, 0, none⟩) n c) n (cs (rowAt R n a)) ∧ Below w.heap.size w w' := by
  obtain ⟨j0, hj, hy0, hy1, hy2⟩ := info_parts info_u8
  have HH := Lib.hid h
  have HA := Lib.hid ha
  clear h ha
  go_enter Try.func35, Try.ntmps35
  go_wp2
  go_loopw [5, 6] (fun v iv wr => ∃ j : Nat, j ≤ n ∧ iv = .int .i64 j ∧ ∃ g9 c9, v = .slice (some ⟨g9, 0, none⟩) j c9 ∧ Hid (wr.ownsRow w.heap.size 5 1 (.slice (some ⟨g9, 0, none⟩) j c9) j (cs (mkF (fun r => gt (R r) a) j))) ∧ Hid (Below w.heap.size w wr)) (fun _ iv _ => n - (intOf iv).toNat)
  case atStart => exact ⟨0, by omega, rfl, _, 0, rfl, World.ownsRow_made (e := 5) (size := 1) w #[] 0 (Nat.le_refl _) (Nat.zero_le _) rfl, (Below.refl _ _).alloc (Nat.le_refl _) _⟩
  case round =>
    obtain ⟨j, hj', rfl, g9, c9, rfl, HO, HBj⟩ := hrel
    by_cases hlj : j < n
    · have hji : (j : Int) < (n : Int) := by omega
      have hMI := HH.out.below HBj.out
      obtain ⟨b1, o1, rfl, _, q1⟩ := hMI.at_ hlj
      obtain ⟨b3, o3, hA3, _, q3⟩ := (hMI.row j hlj).row.at_ (k := a) (HA.out j hlj)
      rw [hA3] at q1
      have hai : (a : Int) < (RL j : Int) := by have := HA.out j hlj; omega
      have hsn := Lib.hid (mkF_snoc (fun r => gt (R r) a) j)
      generalize gt (R j) a = x at *
      generalize RL j = L at *
      clear hMI hA3
      go_wp2_with ((at_builtin; refine wpList_append_lies _ rfl (.tmp 14) (.tmp 22) 22 rfl w.heap.size 5 j0 (.int .u8 0) 1 1 Try.underlying22 hj hy0 hy1 hy2 rfl (by decide) (.slice (some ⟨g9, 0, none⟩) j c9) j (cs (mkF (fun r => gt (R r) a) j)) rfl (HO.out.alloc _) ⟨wr.heap.size, 0, none⟩ 1 1 [.int .u8 x.n] rfl rfl (one_cell wr _ _) (by intro u hu; simp at hu; subst hu; rfl) (by omega) (by unfold maxLen; omega) (by omega) (by have := HBj.out.size; simp; omega) (wr.heap.size + 1) (by simp) ?_; intro g5 c5 w5 hown5 hg5 hat5 hlt5))
      have HO5 : Hid (w5.ownsRow w.heap.size 5 1 (.slice (some ⟨g5, 0, none⟩) (j + 1) c5) (j + 1) (cs (mkF (fun r => gt (R r) a) (j + 1)))) := by
        unfold Hid
        rw [hsn.out, cs_append]
        exact hown5
      have HB5 : Hid (Below w.heap.size w w5) := (HBj.out.alloc HBj.out.size _).grown hg5 (by have := HBj.out.size; simp; omega) (fun x hx => (HO.out.lt x hx).1)
      clear hown5 hg5 hat5 hlt5 HO
      go_wp2
      go_roundw
      case rel => exact ⟨j + 1, by omega, by go_num, g5, c5, rfl, HO5, HB5⟩
      case measure => simp [intOf]; omega
    · obtain rfl : n = j := by omega
      go_wp2
      go_ret
      exact ⟨g9, c9, rfl, HO.out, HBj.out⟩
end Go.Proofs.Ytbmkcnlcffnjgaa
