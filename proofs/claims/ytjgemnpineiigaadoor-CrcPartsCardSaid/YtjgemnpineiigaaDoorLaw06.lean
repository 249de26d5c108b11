/-
  LAW 06's EXAMPLE: 'alive' returns true. No conditions but that the table lies as the program's text lays it.
-/
import Derived.Test.YtjgemnpineiigaaDoorCrc7
import Derived.Deep.RegionHeld3
import Derived.ArgAppend
import Derived.Lib.SlBytesConst
namespace Go.Proofs.YtjgemnpineiigaaDoor
open Go.RowKit
set_option maxRecDepth 100000
set_option linter.unusedVariables false

def l9 : List F := [ofN 49, ofN 50, ofN 51, ofN 52, ofN 53, ofN 54, ofN 55, ofN 56, ofN 57]
theorem l9_sum : sum32 l9 = ofG 3421780262 := by decide +kernel
theorem nOf_nat {n : Nat} (h : n ≤ 1099511627776) : nOf n = n := by unfold nOf; omega
theorem own_shape6 {w : World} {base n : Nat} {e : TypeId} {v : Value} {xs : List Value} (h : w.ownsRow base e 1 v n xs) : ∃ A c, v = .slice A n c := by
  rcases h.2 with ⟨rfl, rfl⟩ | ⟨g, cap, _, rfl, _⟩
  · exact ⟨none, 0, rfl⟩
  · exact ⟨_, cap, rfl⟩
section
variable {W0 W : World} {g : Nat}
theorem Upd_split {A : Option Addr} {n c : Nat} {l m : List F} (ht : Tab W) (h : Row W A n m) : Calls Tryd.prog 9 #[.int .u32 (sum32 l).n, .slice A n c] W fun e w' => e = .returned (.int .u32 (sum32 (l ++ m)).n) ∧ W = w' := by
  have h1 := Update_c (sum32 l) A n c m W ht h
  have e : upd (sum32 l) m = sum32 (l ++ m) := by unfold sum32; rw [upd_append]
  rw [e] at h1
  exact h1
theorem Join_split {l m : List F} {n : Nat} (hn : m.length = n) (hs : n ≤ 1099511627776) : Calls Tryd.prog 17 #[.int .u32 (sum32 l).n, .int .u32 (sum32 m).n, .int .i64 n] W fun e w' => e = .returned (.int .u32 (sum32 (l ++ m)).n) ∧ W = w' := by
  have h1 := JoinG_c (sum32 l) (sum32 m) n W
  rw [nOf_nat hs, ← hn, jn_sum, hn] at h1
  exact h1
theorem Zeros_sum {l : List F} {n : Nat} (hs : n ≤ 1099511627776) : Calls Tryd.prog 18 #[.int .u32 (sum32 l).n, .int .i64 n] W fun e w' => e = .returned (.int .u32 (sum32 (l ++ List.replicate n 0)).n) ∧ W = w' := by
  have h1 := Zeros_c (sum32 l) n W
  rw [nOf_nat hs, ← upd_zeros] at h1
  have e : upd (sum32 l) (List.replicate n 0) = sum32 (l ++ List.replicate n 0) := by unfold sum32; rw [upd_append]
  rw [e] at h1
  exact h1
end
theorem row_lit6 (w : World) (l : List F) (n g : Nat) (hn : n = l.length) (hg : g = w.heap.size) (hl : l.length ≤ maxLen) (C : Array Value) (hC : C = (cs l).toArray) (t : TypeId) (fz : Nat × Nat) : Row (w.alloc (.cells C t fz)) (some ⟨g, 0, none⟩) n l := by
  subst hn hg hC
  refine ⟨rfl, hl, fun _ => ⟨w.heap.size, 0, rfl, by simp, fun i hi => ?_⟩⟩
  have h := heap_alloc_new w (.cells (cs l).toArray t fz)
  rw [Nat.zero_add, cell_of_row _ _ i _ t fz h]
  simpa using cs_at hi
theorem own_lit6 (w : World) (l : List F) (C : Array Value) (hC : C = (cs l).toArray) (hl : l.length ≤ maxLen) (t : TypeId) : (w.alloc (.cells C t)).ownsRow w.heap.size t 1 (.slice (some ⟨w.heap.size, 0, none⟩) l.length l.length) l.length (cs l) := by
  subst hC
  refine ⟨by simp [cs_length], .inr ⟨w.heap.size, l.length, _, rfl, Nat.le_refl _, heap_alloc_new w _, Nat.le_refl _, hl, by simp [cs_length], ?_⟩⟩
  rw [Nat.mul_one, List.take_of_length_le (by simp [cs_length])]
theorem two_cells6 (w : World) (u v : Value) (t : TypeId) : ∀ j x, [u, v][j]? = some x → (w.alloc (.cells #[u, v] t)).cell? ((⟨w.heap.size, 0, none⟩ : Addr).add j) = some x := by
  intro j x hx
  have h := heap_alloc_new w (.cells #[u, v] t)
  have e : (⟨w.heap.size, 0, none⟩ : Addr).add j = ⟨w.heap.size, j, none⟩ := by unfold Addr.add; split <;> simp_all
  rw [e, cell_of_row _ _ j _ t (0, 0) h]
  simpa using hx
theorem row_cells6 {w : World} {b off n : Nat} {l : List F} (h : Row w (some ⟨b, off, none⟩) n l) : ∀ j u, (cs l)[j]? = some u → w.cell? ((⟨b, off, none⟩ : Addr).add j) = some u := by
  intro j u hu
  have hj : j < n := by
    have := (List.getElem?_eq_some_iff.1 hu).1
    rw [cs_length, h.len] at this
    exact this
  obtain ⟨b', o', e, hb, hc⟩ := h.2.2 (by omega)
  injection e with e
  injection e with e1 e2
  subst e1 e2
  have e : (⟨b, off, none⟩ : Addr).add j = ⟨b, off + j, none⟩ := by unfold Addr.add; split <;> simp_all
  rw [e, hc j hj, ← hu, cs_at (by rw [h.len]; exact hj)]
theorem step_append_new {P : Program} {w : World} {ops : Array Oper} {o : Oper} {a : Act} {K : Act → World → Prop} {Q : Exit → Act → World → Prop} {E : Prop} (hw : Region.wanted o (yielded ops a.tmps) = true) (s x : Operand) (t : TypeId)
    (ho : o.op = .call { callee := .builtin .append, args := #[s, x], argTypes := #[t, t] })
    (e : TypeId) (i : TypeInfo) (z : Value) (size bytes : Nat) (ht : P.underlying t = some (.slice e)) (hi : P.info? e = some i) (hz : i.zero = some z)
    (hsize : i.size = size) (hby : i.bytes = bytes) (hzs : z.cells.size = size) (hsz : 0 < size)
    (b : Addr) (n cap : Nat) (olds : List Value) (hs : a.eval s = .slice (some b) n cap) (hlo : olds.length = n * size) (holds : ∀ j u, olds[j]? = some u → w.cell? (b.add j) = some u)
    (ad : Addr) (m c : Nat) (news : List Value) (hx : a.eval x = .slice (some ad) m c) (hl : news.length = m * size) (hnews : ∀ j u, news[j]? = some u → w.cell? (ad.add j) = some u)
    (hg : cap < n + m) (h63 : n + m ≤ maxLen) (hbytes : (n + m) * bytes ≤ 140737488355328)
    (h : ∀ v w', w'.ownsRow w.heap.size e size v (n + m) (olds ++ news) → w.grownBy w' none → K (a.put o.dst v) w') :
    if Region.wanted o (yielded ops a.tmps) = true then Oper.wp P o a w K Q else E := by
  rw [if_pos hw]
  obtain ⟨v, w', hr, h2, h3⟩ := run_append_arg_grows (P := P) w t o.type e i z size bytes ht hi hz hsize hby hzs hsz b n cap olds hlo holds ad m c news hl hnews hg h63 hbytes
  unfold Oper.wp execOp
  simp only [ho, resolve, invoke, builtin, Sem.run_bind, Sem.run_pure, Result.andThen_ok, List.map_toArray, List.map_cons, List.map_nil, hs, hx, hr]
  exact h v w' h2 h3
set_option maxHeartbeats 8000000 in
theorem alive06_c (w : World) (ht : Tab w) : Calls Tryd.prog 8 #[] w fun e w' => e = .returned (.bool true) ∧ Below w.heap.size w w' := by
  obtain ⟨i0, hi, hz0, hz1, hz2⟩ := info_parts info_u8c
  have e1 : (((sum32 l9).n : Int) == 3421780262) = true := by rw [l9_sum]; decide +kernel
  have hcv := fun (w : World) (C : Array Value) (n c : Nat) => Lib.run_convert_bytes_const (P := Tryd.prog) w 23 5 C n c Tryd.underlying23 Tryd.underlying5
  go_enter Tryd.func8, Tryd.ntmps8
  go_wp2
  have hr9 : Row (w.alloc (.cells #[.int .u8 49, .int .u8 50, .int .u8 51, .int .u8 52, .int .u8 53, .int .u8 54, .int .u8 55, .int .u8 56, .int .u8 57] 5 (9, 10))) (some ⟨w.heap.size, 0, none⟩) 9 l9 := row_lit6 w l9 9 _ rfl rfl (by unfold maxLen; decide) _ rfl _ _
  have hB0 : Below w.heap.size w (w.alloc (.cells #[.int .u8 49, .int .u8 50, .int .u8 51, .int .u8 52, .int .u8 53, .int .u8 54, .int .u8 55, .int .u8 56, .int .u8 57] 5 (9, 10))) := (Below.refl _ _).alloc (Nat.le_refl _) _
  have hsz : (w.alloc (.cells #[.int .u8 49, .int .u8 50, .int .u8 51, .int .u8 52, .int .u8 53, .int .u8 54, .int .u8 55, .int .u8 56, .int .u8 57] 5 (9, 10))).heap.size = w.heap.size + 1 := by simp
  clear hcv
  generalize w.alloc (.cells #[.int .u8 49, .int .u8 50, .int .u8 51, .int .u8 52, .int .u8 53, .int .u8 54, .int .u8 55, .int .u8 56, .int .u8 57] 5 (9, 10)) = W0 at *
  have ht0 := ht.below hB0 rfl
  have HS9 : Hid (∀ W, Below W0.heap.size W0 W → Calls Tryd.prog 11 #[.slice (some ⟨w.heap.size, 0, none⟩) 9 9] W fun e w' => e = .returned (.int .u32 (sum32 l9).n) ∧ W = w') := fun W hb => Sum_c _ _ _ _ W (ht0.below hb rfl) (hr9.below hb)
  have HS4 : Hid (∀ W, Below W0.heap.size W0 W → Calls Tryd.prog 11 #[.slice (some ⟨w.heap.size, 0, none⟩) 4 9] W fun e w' => e = .returned (.int .u32 (sum32 (l9.take 4)).n) ∧ W = w') := fun W hb => Sum_c _ _ _ _ W (ht0.below hb rfl) ((hr9.below hb).take (by omega))
  have hr5 : ∀ W, Below W0.heap.size W0 W → Row W (some ⟨w.heap.size, 4, none⟩) 5 (l9.drop 4) := fun W hb => by
    have h := (hr9.below hb).from_ (p := 4) (m := 5) (by omega)
    rw [Nat.zero_add] at h
    exact h
  have HS5 : Hid (∀ W, Below W0.heap.size W0 W → Calls Tryd.prog 11 #[.slice (some ⟨w.heap.size, 4, none⟩) 5 5] W fun e w' => e = .returned (.int .u32 (sum32 (l9.drop 4)).n) ∧ W = w') := fun W hb => Sum_c _ _ _ _ W (ht0.below hb rfl) (hr5 W hb)
  have HU : Hid (∀ W, Below W0.heap.size W0 W → Calls Tryd.prog 9 #[.int .u32 (sum32 (l9.take 4)).n, .slice (some ⟨w.heap.size, 4, none⟩) 5 5] W fun e w' => e = .returned (.int .u32 (sum32 l9).n) ∧ W = w') := fun W hb => Upd_split (l := l9.take 4) (ht0.below hb rfl) (hr5 W hb)
  have HJ : Hid (∀ W, Calls Tryd.prog 17 #[.int .u32 (sum32 (l9.take 4)).n, .int .u32 (sum32 (l9.drop 4)).n, .int .i64 5] W fun e w' => e = .returned (.int .u32 (sum32 l9).n) ∧ W = w') := fun W => Join_split (l := l9.take 4) (m := l9.drop 4) (n := 5) rfl (by omega)
  have HZ : Hid (∀ W, Calls Tryd.prog 18 #[.int .u32 (sum32 l9).n, .int .i64 2] W fun e w' => e = .returned (.int .u32 (sum32 (l9 ++ [0, 0])).n) ∧ W = w') := fun W => Zeros_sum (l := l9) (n := 2) (by omega)
  have HB : Hid (∀ W, Below W0.heap.size W0 W → Calls Tryd.prog 14 #[.slice (some ⟨w.heap.size, 0, none⟩) 9 9, .int .i64 4] W fun e W' => (∃ A c, e = .returned (.slice A 3 c)) ∧ Below W.heap.size W W') := fun W hb => (Blocks_c _ 9 9 4 l9 W (ht0.below hb rfl) ⟨hr9.below hb, Nat.le_refl _, by unfold maxLen; omega⟩ (by omega) (by omega) (by omega)).mono fun e W' ⟨v, h1, h2, h3⟩ => by
    rw [show blkCount 9 4 = 3 from rfl] at h2
    obtain ⟨A, c, rfl⟩ := own_shape6 h2
    exact ⟨⟨A, c, h1⟩, h3⟩
  have HE : Hid (∀ W g5 c5 B5, W.ownsRow B5 5 1 (.slice g5 11 c5) 11 (cs l9 ++ [.int .u8 0, .int .u8 0]) → Below w.heap.size w W → Calls Tryd.prog 11 #[.slice g5 11 c5] W fun e w' => e = .returned (.int .u32 (sum32 (l9 ++ [0, 0])).n) ∧ W = w') := fun W g5 c5 B5 ho hb =>
    Sum_c _ _ _ _ W (ht.below hb rfl) (Row.of_own (e := 5) (base := B5) (by rw [cs_append]; exact ho))
  have hb0 : Below W0.heap.size W0 W0.drew := below_drewN (Below.refl _ _) 1
  have HR9 := Lib.hid hr9
  clear hr9 ht ht0 hr5
  go_region_held3 (fun _ => True)
    (trivial)
    (first
      | (go_at_call 11; (with_reducible refine (HS9.out _ (by first | exact hb0 | exact hbB | exact hbA)).mono ?_); rintro e w' ⟨rfl, rfl⟩)
      | (go_at_call 11; (with_reducible refine (HS4.out _ (by first | exact hb0 | exact hbB)).mono ?_); rintro e w' ⟨rfl, rfl⟩)
      | (go_at_call 11; (with_reducible refine (HS5.out _ (by first | exact hb0 | exact hbB)).mono ?_); rintro e w' ⟨rfl, rfl⟩)
      | (go_at_call 9; (with_reducible refine (HU.out _ (by first | exact hb0 | exact hbB)).mono ?_); rintro e w' ⟨rfl, rfl⟩)
      | (go_at_call 17; (with_reducible refine (HJ.out _).mono ?_); rintro e w' ⟨rfl, rfl⟩)
      | (go_at_call 18; (with_reducible refine (HZ.out _).mono ?_); rintro e w' ⟨rfl, rfl⟩)
      | (go_at_call 14
         (with_reducible refine (HB.out _ hb0).mono ?_)
         rintro e wB ⟨⟨A3, c3, rfl⟩, hbB0⟩
         have hbB : Below W0.heap.size W0 wB := hb0.trans hbB0
         have hbA : Below W0.heap.size W0 (wB.alloc (.cells #[.int .u8 0, .int .u8 0] 5)) := hbB.alloc hbB.size _
         have hsB := hbB.size)
      | (go_at_call 11; (with_reducible refine (HE.out _ _ _ _ hown5 hb5).mono ?_); rintro e w' ⟨rfl, rfl⟩)
      | (refine step_append_new (show Region.wanted _ (yielded _ _) = true from rfl) (.tmp 36) (.tmp 37) 23 rfl 5 i0 (.int .u8 0) 1 1 Tryd.underlying23 hi hz0 hz1 hz2 rfl (by decide) ⟨w.heap.size, 0, none⟩ 9 9 (cs l9) (by rfl) (by rfl) (row_cells6 (HR9.out.below hbA)) ⟨wB.heap.size, 0, none⟩ 2 2 [.int .u8 0, .int .u8 0] (by rfl) (by rfl) (two_cells6 wB _ _ _) (by omega) (by unfold maxLen; omega) (by omega) ?_
         intro v5 w5 hown5 hg5
         have hb5 : Below w.heap.size w w5 := ((hB0.trans (hbB.mono hB0.size)).alloc (by omega) (.cells #[.int .u8 0, .int .u8 0] 5)).grown hg5 (by simp; omega) (fun x hx => by cases hx)
         obtain ⟨A5, c5, rfl⟩ := own_shape6 hown5))
  all_goals
    go_wp2
    go_ret
    exact ⟨rfl, hb5⟩
end Go.Proofs.YtjgemnpineiigaaDoor
