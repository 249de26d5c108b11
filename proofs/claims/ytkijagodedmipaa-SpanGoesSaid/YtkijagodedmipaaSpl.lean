/-
  LAW 22: the document's own New, Next. No conditions (but for a writer of right volumes).
-/
import Derived.Test.YtkijagodedmipaaLaw22a
namespace Go.Proofs.Ytkijagodedmipaa
open Go.RowKit
set_option maxRecDepth 100000
set_option linter.unusedVariables false

/-- the document's writer, as a value -/
def dwV (S : Nat) (A : Option Addr) (n c : Nat) : Value := .agg #[.int .i64 (S : Int), .slice A n c]
theorem info_dw : (Try.prog.info? 31).map (·.size) = some 2 := by kernel_rfl
theorem ld_dw {w : World} {g : Nat} {C : Array Value} (h : Blk w g 31 C) (hC : C.size = 2) : Sem.run Try.prog (loadVar 31 ⟨g, 0, none⟩) w = .ok (.agg C) w :=
  run_loadVar_row w g _ _ _ (0, 0) _ h Try.underlying31 rfl (by rw [info_dw, hC])
theorem st_dw {w : World} {g : Nat} {C : Array Value} (h : Blk w g 31 C) (hC : C.size = 2) (D : Array Value) (hD : D.size = 2) (h1 : D.all (·.oneCell') = true) :
    Sem.run Try.prog (storeVar 31 ⟨g, 0, none⟩ (.agg D)) w = .ok () (w.setRow g D) :=
  run_storeVar_row w g _ _ _ _ h (by rw [info_dw, hD]) (by rw [hC, hD]) h1
theorem heap_setRow_ne {w : World} {g q : Nat} (hne : g ≠ q) (D : Array Value) : (w.setRow q D).heap[g]? = w.heap[g]? := by
  simp [World.setRow, Array.getElem?_modify]
  exact fun e => absurd e.symm hne
/-- the document's rows in memory, and where: in G -/
def Dw (G : Nat → Prop) (w : World) (v : Vs) (A : Option Addr) (c : Nat) : Prop := ∃ RA RC, MInR w A (v.P.length + 1) c RA RC (vrow v) ∧ (∀ r, r < v.P.length + 1 → 0 < (vrow v r).length → ∀ x o, RA r = some ⟨x, o, none⟩ → G x) ∧ ∀ x o, A = some ⟨x, o, none⟩ → G x
theorem Dw.below {G : Nat → Prop} {w w' : World} {v : Vs} {A : Option Addr} {c : Nat} (h : Dw G w v A c) (hb : Below w.heap.size w w') : Dw G w' v A c := by
  obtain ⟨RA, RC, h, h2⟩ := h
  exact ⟨RA, RC, MIn.below h hb, h2⟩
theorem Dw.mono {G G' : Nat → Prop} {w : World} {v : Vs} {A : Option Addr} {c : Nat} (h : Dw G w v A c) (hg : ∀ x, x < w.heap.size → G x → G' x) : Dw G' w v A c := by
  obtain ⟨RA, RC, h, h2, h3⟩ := h
  refine ⟨RA, RC, h, fun r hr h0 x o e => ?_, fun x o e => ?_⟩
  · obtain ⟨b, off, e2, hl, _⟩ := (MIn.row h r hr).row.at_ (k := 0) h0
    rw [e] at e2
    injection e2 with e2
    injection e2 with e2 _ _
    exact hg x (by omega) (h2 r hr h0 x o e)
  · obtain ⟨b, off, e2, hl, _⟩ := MIn.top h (by omega)
    rw [e] at e2
    injection e2 with e2
    injection e2 with e2 _ _
    exact hg x (by omega) (h3 x o e)
theorem Dw.keepF {G Fq : Nat → Prop} {w w' : World} {v : Vs} {A : Option Addr} {c : Nat} (h : Dw G w v A c) (hk : KeepF Fq w w') (hg : ∀ x, x < w.heap.size → G x → ¬ Fq x) : Dw G w' v A c := by
  obtain ⟨RA, RC, h, h2, h3⟩ := h
  refine ⟨RA, RC, ⟨h.le, h.max, fun hn => ?_, fun r hr => ?_⟩, h2, h3⟩
  · obtain ⟨b, off, e, hl, hc⟩ := h.top hn
    exact ⟨b, off, e, by have := hk.size; omega, fun r hr => (World.cell?_of_block (a := ⟨b, off + r, none⟩) (hk.block b hl (hg b hl (h3 b off e)))).trans (hc r hr)⟩
  · exact (MIn.row h r hr).keepF hk fun h0 x o e => by
      obtain ⟨b, off, e2, hl, _⟩ := (MIn.row h r hr).row.at_ (k := 0) h0
      have e3 := e
      rw [e] at e2
      injection e2 with e2
      injection e2 with e2 _ _
      exact hg x (by omega) (h2 r hr h0 x o e3)
set_option maxHeartbeats 1000000 in
theorem RNew_c (S : Nat) (w : World) : Calls Try.prog 10 #[.int .i64 S] w fun e w' => ∃ A c, e = .returned (dwV S A 1 c) ∧ Dw (fun x => w.heap.size ≤ x) w' v0 A c ∧ Below w.heap.size w w' := by
  have hb1 := (Below.refl w.heap.size w).alloc (Nat.le_refl _) (.cells #[.int .i64 0, .slice none 0 0] 31)
  have hK := Blk.new w 31 #[.int .i64 0, .slice none 0 0]
  have hz1 : (w.alloc (.cells #[.int .i64 0, .slice none 0 0] 31)).heap.size = w.heap.size + 1 := by simp
  have hb2 := (Below.refl (w.alloc (.cells #[.int .i64 0, .slice none 0 0] 31)).heap.size _).alloc (Nat.le_refl _) (.cells #[.int .u8 80, .int .u8 75, .int .u8 7, .int .u8 8] 5)
  have hR2 := row_lit (w.alloc (.cells #[.int .i64 0, .slice none 0 0] 31)) pk4 4 (w.heap.size + 1) rfl hz1.symm (by unfold maxLen; decide) #[.int .u8 80, .int .u8 75, .int .u8 7, .int .u8 8] rfl 5
  have hz2 : ((w.alloc (.cells #[.int .i64 0, .slice none 0 0] 31)).alloc (.cells #[.int .u8 80, .int .u8 75, .int .u8 7, .int .u8 8] 5)).heap.size = w.heap.size + 1 + 1 := by simp
  have hb3 := (Below.refl ((w.alloc (.cells #[.int .i64 0, .slice none 0 0] 31)).alloc (.cells #[.int .u8 80, .int .u8 75, .int .u8 7, .int .u8 8] 5)).heap.size _).alloc (Nat.le_refl _) (.cells #[.slice (some ⟨w.heap.size + 1, 0, none⟩) 4 4] 33)
  have h1r : ∀ r, r < 1 → RowIn ((w.alloc (.cells #[.int .i64 0, .slice none 0 0] 31)).alloc (.cells #[.int .u8 80, .int .u8 75, .int .u8 7, .int .u8 8] 5)) (some ⟨w.heap.size + 1, 0, none⟩) (vrow v0 r).length 4 (vrow v0 r) := fun r hr => by
    obtain rfl : r = 0 := by omega
    exact ⟨hR2, Nat.le_refl _, by unfold maxLen; decide⟩
  have h2r : ∀ r, r < 1 → (#[.slice (some ⟨w.heap.size + 1, 0, none⟩) 4 4] : Array Value)[r]? = some (.slice (some ⟨w.heap.size + 1, 0, none⟩) (vrow v0 r).length 4) := fun r hr => by
    obtain rfl : r = 0 := by omega
    rfl
  have hM3 := rows_lit (w := (w.alloc (.cells #[.int .i64 0, .slice none 0 0] 31)).alloc (.cells #[.int .u8 80, .int .u8 75, .int .u8 7, .int .u8 8] 5)) (n := 1) (RA := fun _ => some ⟨w.heap.size + 1, 0, none⟩) (RL := fun r => (vrow v0 r).length) (RC := fun _ => 4) (R := vrow v0)
    h1r #[.slice (some ⟨w.heap.size + 1, 0, none⟩) 4 4] h2r 33 (by unfold maxLen; omega)
  rw [hz2] at hM3
  have hk3 := (hK.below hK.lt hb2).below ((hK.below hK.lt hb2)).lt hb3
  have hB3 := (hb1.trans (hb2.mono hb1.size)).trans (hb3.mono (hb1.trans (hb2.mono hb1.size)).size)
  have t2 := st_dw hk3 rfl #[.int .i64 S, .slice (some ⟨w.heap.size + 1 + 1, 0, none⟩) 1 1] rfl (by simp [Value.oneCell'])
  have t3 := ld_dw (hk3.setRow #[.int .i64 S, .slice (some ⟨w.heap.size + 1 + 1, 0, none⟩) 1 1]) rfl
  have HB9 := Lib.hid (below_setRowV hB3 (Nat.le_refl _) #[.int .i64 S, .slice (some ⟨w.heap.size + 1 + 1, 0, none⟩) 1 1])
  have HD9 : Hid (Dw (fun x => w.heap.size ≤ x) ((((w.alloc (.cells #[.int .i64 0, .slice none 0 0] 31)).alloc (.cells #[.int .u8 80, .int .u8 75, .int .u8 7, .int .u8 8] 5)).alloc (.cells #[.slice (some ⟨w.heap.size + 1, 0, none⟩) 4 4] 33)).setRow w.heap.size #[.int .i64 S, .slice (some ⟨w.heap.size + 1 + 1, 0, none⟩) 1 1]) v0 (some ⟨w.heap.size + 1 + 1, 0, none⟩) 1) := by
    refine ⟨fun _ => some ⟨w.heap.size + 1, 0, none⟩, fun _ => 4, ?_, fun r hr h0 x o e => by injection e with e; injection e with e _ _; omega, fun x o e => by injection e with e; injection e with e _ _; omega⟩
    refine ⟨hM3.le, hM3.max, fun hn => ?_, fun r hr => ?_⟩
    · obtain ⟨b, off, e, hl, hc⟩ := hM3.top hn
      injection e with e
      injection e with e1 e2 _
      subst e1 e2
      exact ⟨_, 0, rfl, by rw [World.size_setRow]; exact hl, fun r hr => (cell_setRow_ne (by show w.heap.size + 1 + 1 ≠ w.heap.size; omega) _).trans (hc r hr)⟩
    · have h9 := hM3.row r hr
      refine ⟨h9.row.blk (by rw [World.size_setRow]; exact Nat.le_refl _) fun b o e hl => ?_, h9.le, h9.max⟩
      injection e with e
      injection e with e1 e2 _
      subst e1
      exact heap_setRow_ne (show w.heap.size + 1 ≠ w.heap.size by omega) _
  clear hb1 hK hz1 hb2 hR2 hz2 hb3 hM3 hk3 hB3
  go_enter Try.func10, Try.ntmps10
  go_wp2_with (with_reducible refine wpList_store_var _ _ _ (by with_unfolding_all rfl) (by with_unfolding_all rfl) t2 ?_)
  refine bodyPost_ret (v := .agg #[.int .i64 S, .slice (some ⟨w.heap.size + 1 + 1, 0, none⟩) 1 1]) ?_ rfl ⟨_, _, rfl, HD9.out, HB9.out⟩
  rw [results_cell_oneV rfl]
  simp [asAddr, Result.andThen, t3]
set_option maxHeartbeats 1000000 in
theorem RNext_c {G : Nat → Prop} {w : World} {S : Nat} {v : Vs} {A : Option Addr} {c : Nat} (h : Dw G w v A c) (hv : VOk S v) (hS : S ≤ 16777216) (hP : v.P.length ≤ 1000000) (m : Nat) (hm : m ≤ 16777216) :
    Calls Try.prog 18 #[dwV S A (v.P.length + 1) c, .int .i64 m] w fun e w' => e = .returned (plV (((vat S v m).1 : Nat) : Int) (((vat S v m).2 : Nat) : Int)) ∧ Below w.heap.size w w' := by
  obtain ⟨RA, RC, h, _⟩ := h
  have hq := hv.qS
  have hb1 := (Below.refl w.heap.size w).alloc (Nat.le_refl _) (.cells #[.int .i64 S, .slice A (v.P.length + 1) c] 31)
  have hK2 := Blk.new w 31 #[.int .i64 S, .slice A (v.P.length + 1) c]
  have hb2 := (Below.refl (w.alloc (.cells #[.int .i64 S, .slice A (v.P.length + 1) c] 31)).heap.size _).alloc (Nat.le_refl _) (.cells #[.int .i64 0, .int .i64 0] 37)
  have hK4 := Blk.new (w.alloc (.cells #[.int .i64 S, .slice A (v.P.length + 1) c] 31)) 37 #[.int .i64 0, .int .i64 0]
  have hz1 : (w.alloc (.cells #[.int .i64 S, .slice A (v.P.length + 1) c] 31)).heap.size = w.heap.size + 1 := by simp
  rw [hz1] at hK4
  have hK22 := hK2.below hK2.lt hb2
  obtain ⟨b1, o1, eA, hl1, z1⟩ := (MIn.below (MIn.below h hb1) hb2).at_ (r := v.P.length) (by omega)
  subst eA
  rw [show (vrow v v.P.length).length = v.q.length by rw [vrow_last]] at z1
  have hB2 := hb1.trans (hb2.mono hb1.size)
  have y0 : ((w.alloc (.cells #[.int .i64 S, .slice (some ⟨b1, o1, none⟩) (v.P.length + 1) c] 31)).alloc (.cells #[.int .i64 0, .int .i64 0] 37)).cell? ⟨w.heap.size, 0, none⟩ = some (.int .i64 S) := hK22.cell 0
  have y1 : ((w.alloc (.cells #[.int .i64 S, .slice (some ⟨b1, o1, none⟩) (v.P.length + 1) c] 31)).alloc (.cells #[.int .i64 0, .int .i64 0] 37)).cell? ⟨w.heap.size, 1, none⟩ = some (.slice (some ⟨b1, o1, none⟩) (v.P.length + 1) c) := hK22.cell 1
  unfold dwV
  obtain ⟨l, hl⟩ : ∃ l, l = v.P.length := ⟨_, rfl⟩
  obtain ⟨L, hL⟩ : ∃ L, L = v.q.length := ⟨_, rfl⟩
  generalize hRA : RA v.P.length = A1 at *
  generalize hRC : RC v.P.length = C1 at *
  rw [← hl, ← hL] at z1
  rw [← hl] at y0 y1 hK4 hB2 ⊢
  rw [← hL] at hq
  have HB2 := Lib.hid hB2
  have HK4 := Lib.hid hK4
  have HV : Hid (vat S v m = if L + m ≤ S then (l, L) else (l + 1, 0)) := by unfold Hid vat; rw [hl, hL]
  have hP2 : l ≤ 1000000 := by omega
  clear hb1 hK2 hb2 hz1 hK22 hB2 hK4 hl1 h hP hRA hRC hv hL hl
  have ix1 : (0 : Int) ≤ (l : Int) := by omega
  have ix2 : (l : Int) < (l : Int) + 1 := by omega
  have hw : IntKind.i64.wrap ((L : Int) + (m : Int)) = (L : Int) + (m : Int) := IntWalk.i64_in _ (by omega)
  by_cases hc : L + m ≤ S
  · have i1 : ¬ (S : Int) < (L : Int) + (m : Int) := by omega
    have HV2 : Hid (vat S v m = (l, L)) := by unfold Hid; rw [HV.out, if_pos hc]
    clear hc HV
    go_enter Try.func18, Try.ntmps18
    go_wp2_with fail
    generalize (w.alloc (.cells #[.int .i64 S, .slice (some ⟨b1, o1, none⟩) (l + 1) c] 31)).alloc (.cells #[.int .i64 0, .int .i64 0] 37) = W at *
    go_region_held3 (fun W' => W'.cell? ⟨w.heap.size, 0, none⟩ = some (.int .i64 S) ∧ W'.cell? ⟨w.heap.size, 1, none⟩ = some (.slice (some ⟨b1, o1, none⟩) (l + 1) c) ∧ W'.cell? ⟨b1, o1 + l, none⟩ = some (.slice A1 L C1)) (go_keep) (fail)
    have t2 := st_pl HK4.out.drew rfl (plC l L) rfl (by simp [plC, Value.oneCell'])
    have t3 := ld_pl (HK4.out.drew.setRow (plC l L)) rfl
    have HB9 := Lib.hid (below_setRowV HB2.out.drew (by omega : w.heap.size ≤ w.heap.size + 1) (plC l L))
    unfold plC at *
    go_wp2_with (with_reducible refine wpList_store_var _ _ _ (by with_unfolding_all rfl) (by with_unfolding_all rfl) t2 ?_)
    rw [HV2.out]
    refine bodyPost_ret (v := .agg #[.int .i64 l, .int .i64 L]) ?_ rfl ⟨rfl, HB9.out⟩
    rw [results_cell_oneV rfl]
    simp [asAddr, Result.andThen, t3]
  · have i1 : (S : Int) < (L : Int) + (m : Int) := by omega
    have HV2 : Hid (vat S v m = (l + 1, 0)) := by unfold Hid; rw [HV.out, if_neg hc]
    clear hc HV
    go_enter Try.func18, Try.ntmps18
    go_wp2_with fail
    generalize (w.alloc (.cells #[.int .i64 S, .slice (some ⟨b1, o1, none⟩) (l + 1) c] 31)).alloc (.cells #[.int .i64 0, .int .i64 0] 37) = W at *
    go_region_held3 (fun W' => W'.cell? ⟨w.heap.size, 0, none⟩ = some (.int .i64 S) ∧ W'.cell? ⟨w.heap.size, 1, none⟩ = some (.slice (some ⟨b1, o1, none⟩) (l + 1) c) ∧ W'.cell? ⟨b1, o1 + l, none⟩ = some (.slice A1 L C1)) (go_keep) (fail)
    have t2 := st_pl HK4.out.drew rfl (plC ((l : Int) + 1) 0) rfl (by simp [plC, Value.oneCell'])
    have t3 := ld_pl (HK4.out.drew.setRow (plC ((l : Int) + 1) 0)) rfl
    have HB9 := Lib.hid (below_setRowV HB2.out.drew (by omega : w.heap.size ≤ w.heap.size + 1) (plC ((l : Int) + 1) 0))
    unfold plC at *
    go_wp2_with (with_reducible refine wpList_store_var _ _ _ (by with_unfolding_all rfl) (by with_unfolding_all rfl) t2 ?_)
    rw [HV2.out]
    refine bodyPost_ret (v := .agg #[.int .i64 ((l : Int) + 1), .int .i64 0]) ?_ rfl ⟨rfl, HB9.out⟩
    rw [results_cell_oneV rfl]
    simp [asAddr, Result.andThen, t3]
end Go.Proofs.Ytkijagodedmipaa
