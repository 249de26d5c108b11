/-
  STRIPES: what each byte comes to at a column that follows: the program's byteSums. No conditions.
-/
import Derived.Test.YtbmkcnlcffnjgaaSrf
import Derived.StillTailTactics
import Derived.Laws.ResultCell
namespace Go.Proofs.Ytbmkcnlcffnjgaa
open Go.RowKit
set_option maxRecDepth 100000
set_option linter.unusedVariables false

theorem index_a8 (f : Nat → Value) (w : World) {j : Nat} (hj : j < 8) : Sem.run Try.prog (Instr.index 66 (.agg (vs f 8).toArray) (.int .i64 (j : Int))) w = .ok (f j) w := by
  have h : j = 0 ∨ j = 1 ∨ j = 2 ∨ j = 3 ∨ j = 4 ∨ j = 5 ∨ j = 6 ∨ j = 7 := by omega
  rcases h with rfl | rfl | rfl | rfl | rfl | rfl | rfl | rfl
  all_goals rfl
theorem results_cell_one8 {P : Program} {fn : Func} {p : Tmp} {ty : TypeId} (h : fn.results = #[.cell p ty]) (tmps : Array Value) (w : World) :
    (results fn tmps).run P w = ((asAddr (tmps.getD p undef)).run P w).andThen fun a w₁ => (loadVar ty a).run P w₁ := by
  simp only [results, h]
  simp [Sem.run_bind, Result.andThen]
def fv (s : Nat → F) : Nat → Value := fun v => .int .u8 (s v).n
theorem fv_set (s : Nat → F) (n y : Nat) (z : F) : (vs (fv s) n).set y (.int .u8 z.n) = vs (fv (fun v => if v = y then z else s v)) n := vs_set fun i hi => by
  unfold fv
  by_cases e : i = y
  · rw [if_pos e]; show Value.int .u8 ((if i = y then z else s i).n : Int) = _; rw [if_pos e]
  · rw [if_neg e]; show Value.int .u8 ((if i = y then z else s i).n : Int) = _; rw [if_neg e]
set_option maxHeartbeats 4000000 in
theorem byteSums_c (w : World) (RA : Nat → Option Addr) (K : Nat → Nat) (B : Nat → List F) (k j : Nat) (hj : j < k) (hB : ∀ b, b < 8 → Row w (RA b) k (B b)) (hk : k ≤ 255) :
    Calls Try.prog 46 #[.agg (vs (fun b => .slice (RA b) k (K b)) 8).toArray, .int .i64 j] w fun e w' => ∃ s, e = .returned (.agg (vs (fv s) 256).toArray) ∧ Rec8 (fun b => gt (B b) j) s 8 ∧ Below w.heap.size w w' := by
  have hz := zero_a256
  have HB := Lib.hid hB
  have hsz : ((vs (fun b => Value.slice (RA b) k (K b)) 8).toArray).size = 8 := by rw [List.size_toArray, vs_length]
  obtain ⟨AV, hAV⟩ : ∃ AV, AV = (vs (fun b => Value.slice (RA b) k (K b)) 8).toArray := ⟨_, rfl⟩
  rw [← hAV] at hsz ⊢
  have HAV := Lib.hid hAV
  have hld : Sem.run Try.prog (loadVar 66 ⟨w.heap.size, 0, none⟩) (((w.alloc (.cells AV 66)).alloc (.cells (vs (fun _ => .int .u8 0) 256).toArray 68)).alloc (.cells (vs (fun _ => .int .u8 0) 256).toArray 68)) = .ok (.agg AV) (((w.alloc (.cells AV 66)).alloc (.cells (vs (fun _ => .int .u8 0) 256).toArray 68)).alloc (.cells (vs (fun _ => .int .u8 0) 256).toArray 68)) := by
    subst hAV
    exact load_a8 _ _ _ (((Blk.new w 66 _).below (by simp) ((Below.refl _ _).alloc (Nat.le_refl _) _)).below (by simp; omega) ((Below.refl _ _).alloc (Nat.le_refl _) _))
  clear hB hAV hsz
  go_enter Try.func46, Try.ntmps46
  go_wp2_with (with_reducible refine wpList_load_var w.heap.size _ rfl hld ?_)
  clear hld
  go_loopw [10] (fun i wr => ∃ b : Nat, b ≤ 8 ∧ i = .int .i64 b ∧ ∃ s, Blk wr (w.heap.size + 1 + 1) 68 (vs (fv s) 256).toArray ∧ Blk wr (w.heap.size + 1) 68 (vs (fun _ => .int .u8 0) 256).toArray ∧ Hid (Rec8 (fun b => gt (B b) j) s b) ∧ Below w.heap.size w wr) (fun i _ => 8 - (intOf i).toNat)
  case atStart =>
    have hb3 : Below w.heap.size w (((w.alloc (.cells AV 66)).alloc (.cells (vs (fun _ => .int .u8 0) 256).toArray 68)).alloc (.cells (vs (fun _ => .int .u8 0) 256).toArray 68)) := (((Below.refl _ _).alloc (Nat.le_refl _) _).alloc (by simp) _).alloc (by simp; omega) _
    refine ⟨0, by omega, rfl, fun _ => 0, ?_, ?_, ⟨rfl, fun c hc => by omega⟩, hb3⟩
    · have h1 := Blk.new ((w.alloc (.cells AV 66)).alloc (.cells (vs (fun _ => .int .u8 0) 256).toArray 68)) 68 (vs (fun _ => .int .u8 0) 256).toArray
      rw [World.size_alloc, World.size_alloc] at h1
      exact h1
    · have h1 := (Blk.new (w.alloc (.cells AV 66)) 68 (vs (fun _ => .int .u8 0) 256).toArray).below (by simp) ((Below.refl _ _).alloc (Nat.le_refl _) (.cells (vs (fun _ => .int .u8 0) 256).toArray 68))
      rw [World.size_alloc] at h1
      exact h1
  case round =>
    obtain ⟨b, hb8, rfl, s, hb1, hb2, hrec, hbel⟩ := hrel
    by_cases hlt : b < 8
    · have hbi : (b : Int) < 8 := by omega
      obtain ⟨P, hP⟩ : ∃ P, P = 2 ^ b := ⟨_, rfl⟩
      obtain ⟨e1, e2, e3⟩ := pow_shl23 hlt hP
      have hix : ∀ W, Sem.run Try.prog (Instr.index 66 (.agg AV) (.int .i64 (b : Int))) W = .ok (.slice (RA b) k (K b)) W := fun W => by rw [HAV.out]; exact index_a8 _ W hlt
      have hr := HB.out b hlt
      have HP := Lib.hid hP
      clear hP
      go_wp2
      generalize RA b = Ab at *
      generalize K b = Kb at *
      go_loopw [16] (fun i wr => ∃ x : Nat, x ≤ P ∧ i = .int .i64 x ∧ ∃ s, Blk wr (w.heap.size + 1 + 1) 68 (vs (fv s) 256).toArray ∧ Blk wr (w.heap.size + 1) 68 (vs (fun _ => .int .u8 0) 256).toArray ∧ Hid (Rec8 (fun b => gt (B b) j) s b ∧ ∀ v, v < x → s (P + v) = s v + gt (B b) j) ∧ Below w.heap.size w wr) (fun i _ => P - (intOf i).toNat)
      case atStart => exact ⟨0, by omega, rfl, s, hb1, hb2, ⟨hrec.out, fun v hv => by omega⟩, hbel⟩
      case round =>
        clear hb1 hb2 hrec hbel
        obtain ⟨x, hx, rfl, s, hb1, hb2, hrec, hbel⟩ := hrel
        by_cases hlx : x < P
        · have hxi : (x : Int) < (P : Int) := by omega
          obtain ⟨b1, o1, hA1, _, q1⟩ := (hr.below hbel).at_ (k := j) hj
          obtain ⟨y, hy⟩ : ∃ y, y = P + x := ⟨_, rfl⟩
          have hyi : IntKind.i64.wrap ((P : Int) + (x : Int)) = (y : Int) := (IntWalk.i64_in _ (by omega)).trans (by omega)
          have hwP : IntKind.i64.wrap (P : Int) = (P : Int) := IntWalk.i64_in _ (by omega)
          have hy256 : (y : Int) < 256 := by omega
          have hx256 : (x : Int) < 256 := by omega
          have hji : (j : Int) < (k : Int) := by omega
          have hc := hb1.cell x
          rw [List.getElem?_toArray, vs_at _ (by omega)] at hc
          have hc2 := hb1.cell y
          rw [List.getElem?_toArray, vs_at _ (by omega)] at hc2
          have hf := hb1.frozen y
          obtain ⟨z, hz2⟩ : ∃ z, z = s x + gt (B b) j := ⟨_, rfl⟩
          have hxor := bits_xor (s x) (gt (B b) j)
          rw [← hz2] at hxor
          have hst := Lib.hid (hb1.set_ y (.int .u8 z.n))
          have hb2' := Lib.hid (hb2.setOther (a := Addr.mk (w.heap.size + 1 + 1) y none) (by simp) (.int .u8 z.n))
          have HBEL := Lib.hid (hbel.setCell (p := Addr.mk (w.heap.size + 1 + 1) y none) (by simp; omega) (.int .u8 z.n))
          have HZ : Hid (Rec8 (fun b => gt (B b) j) (fun v => if v = y then z else s v) b ∧ ∀ v, v < x + 1 → (fun v => if v = y then z else s v) (P + v) = (fun v => if v = y then z else s v) v + gt (B b) j) := by
            refine ⟨hrec.out.1.congr fun v hv => by rw [if_neg (by have := HP.out; omega)], fun v hv => ?_⟩
            show (if P + v = y then z else s (P + v)) = (if v = y then z else s v) + _
            rw [if_neg (c := v = y) (by omega)]
            by_cases e : v = x
            · subst e; rw [if_pos hy.symm, hz2]
            · rw [if_neg (by omega), hrec.out.2 v (by omega)]
          subst hA1
          unfold fv at hc hc2
          generalize hsx : s x = sx at hc hxor
          generalize hbj : gt (B b) j = bj at q1 hxor
          have HZ2 := HZ.out
          rw [hbj] at HZ2
          have HZ3 := Lib.hid HZ2
          clear hb1 hb2 hrec hbel hz2 hsx hbj hy HZ HZ2
          go_wp2
          go_still_tail 13, (by kernel_rfl)
          go_wp2
          go_roundw
          case rel =>
            have h1 := hst.out
            rw [List.setIfInBounds_toArray, fv_set] at h1
            exact ⟨x + 1, by omega, by go_num, _, h1, hb2'.out, HZ3, HBEL.out.drew⟩
          case measure => simp [intOf]; omega
        · obtain rfl : x = P := by omega
          go_wp2
          go_roundw
          case rel =>
            refine ⟨b + 1, by omega, by go_num, s, hb1, hb2, ⟨hrec.out.1.1, fun c hc v hv => ?_⟩, hbel⟩
            rcases Nat.lt_or_ge c b with h3 | h3
            · exact hrec.out.1.2 c h3 v hv
            · obtain rfl : c = b := by omega
              have h4 := HP.out
              rw [← h4] at hv ⊢
              exact hrec.out.2 v hv
          case measure => simp [intOf]; omega
    · obtain rfl : b = 8 := by omega
      have hld1 := load_a256 wr (w.heap.size + 1 + 1) _ hb1
      have hst := storeCells_vs size_a256 wr (w.heap.size + 1) _ (fv s) (by rw [List.size_toArray, vs_length]) (fun i hi => rfl) hb2
      have hlen : (vs (fv s) 256).length = 256 := vs_length _ _
      have hld2 := load_a256 _ (w.heap.size + 1) _ (hb2.setRow (vs (fv s) 256).toArray)
      have hbel2 := below_setRow hbel (g := w.heap.size + 1) (by omega) (vs (fv s) 256).toArray
      go_wp2_with ((with_reducible refine wpList_load_var (w.heap.size + 1 + 1) _ ?hp hld1 ?hK); case hp => rfl)
      refine bodyPost_ret (v := .agg (vs (fv s) 256).toArray) ?_ rfl ⟨s, rfl, hrec.out, hbel2⟩
      rw [results_cell_one8 rfl]
      simp [asAddr, Result.andThen, hld2]
end Go.Proofs.Ytbmkcnlcffnjgaa
