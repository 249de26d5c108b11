/-
  RECORDS OF THE DIRECTORY: the closure that lays numbers of one size behind the bytes in a box; what stands while a record is laid; a record's bytes as they are laid (WRITTEN by wip/gen19i.py). No conditions.
-/
import Derived.Test.YtacllgglpjdobaaDoorCng
import Derived.Test.YtacllgglpjdobaaDoorLocg
import Derived.Test.YtacllgglpjdobaaDoorLock
namespace Go.Proofs.YtacllgglpjdobaaDoor
open Go.RowKit
set_option maxRecDepth 100000
set_option linter.unusedVariables false

theorem IRow.woutT {w w' : World} {A : Option Addr} {n p : Nat} {k : IntKind} {l : List Int} {a b : Option Nat} (h : IRow w A n k l) (ho : WOut p a b w w') (hA : ∀ b o, A = some ⟨b, o, none⟩ → b ≠ p ∧ a ≠ some b) : IRow w' A n k l :=
  ⟨h.len, h.max, fun hn => by
    obtain ⟨b, off, e, hl, hc⟩ := h.cells hn
    obtain ⟨h1, h2⟩ := hA b off e
    have hk := ho.block b hl h1 h2
    exact ⟨b, off, e, by have := ho.size; omega, fun i hi => (World.cell?_of_block (a := ⟨b, off + i, none⟩) hk).trans (hc i hi)⟩, h.wf⟩
/-- numbers of one size -/
def szP (s : Nat) (zs : List Nat) : List (Nat × Nat) := zs.map fun z => (z, s)
def gzN (zs : List Nat) (i : Nat) : Nat := zs.getD i 0
theorem szP_take (s : Nat) (zs : List Nat) (k : Nat) : (szP s zs).take k = szP s (zs.take k) := by
  unfold szP
  rw [List.map_take]
theorem szP_N (s : Nat) (zs : List Nat) : nsN (szP s zs) = zs.length * s := by
  induction zs with
  | nil => simp [szP, nsN]
  | cons a r ih =>
    show s + nsN (szP s r) = (r.length + 1) * s
    rw [ih, Nat.add_mul, Nat.one_mul, Nat.add_comm]
set_option maxHeartbeats 2000000 in
theorem cput_c (s : Nat) (hs : s ≤ 8) (A : Option Addr) (n c : Nat) (zs : List Nat) (hz : ∀ z ∈ zs, z < two64) (hn : n ≤ 100) (w : World) (hA : IRow w A n .u64 (zs.map fun (z : Nat) => (z : Int))) (q base : Nat) (V : Option Addr) (N cv : Nat) (Y : List F) (hx : BxO w q base V N cv Y) (hN : N ≤ 1000000)
    (hap : ∀ b o, A = some ⟨b, o, none⟩ → b ≠ q ∧ (Value.slice V N cv).ownBlock ≠ some b) (hbase : base ≤ w.heap.size) :
    Calls Tryd.prog 40 #[.int .i64 (s : Int), .slice A n c, .pointer (some ⟨q, 0, none⟩)] w fun e w' => e = .returned (.tuple #[]) ∧ ∃ V' c', BxO w' q base V' (N + nsN (szP s zs)) c' (Y ++ nsB (szP s zs)) ∧ WOut q (Value.slice V N cv).ownBlock (Value.slice V' (N + nsN (szP s zs)) c').ownBlock w w' := by
  obtain ⟨i0, hi, hz0, hz1, hz2⟩ := info_parts info_u8
  have hL : zs.length = n := by have := hA.len; rwa [List.length_map] at this
  have HP := Lib.hid hz
  have HA := Lib.hid hA
  have HX := Lib.hid hx
  have HAP := Lib.hid hap
  have HL := Lib.hid hL
  have hs8 := held_le8 hs
  clear hz hA hx hap hL
  go_enter Tryd.func40, Tryd.ntmps40
  go_wp2
  go_loopw [9] (fun iv wr => ∃ (k c' : Nat) (V' : Option Addr), k ≤ n ∧ iv = .int .i64 k ∧ Hid (BxO wr q base V' (N + nsN (szP s (zs.take k))) c' (Y ++ nsB (szP s (zs.take k)))) ∧ Hid (WOut q (Value.slice V N cv).ownBlock (Value.slice V' (N + nsN (szP s (zs.take k))) c').ownBlock w wr)) (fun iv _ => n - (intOf iv).toNat)
  case atStart => exact ⟨0, cv, V, by omega, rfl, by rw [List.take_zero]; show Hid (BxO w q base V N cv (Y ++ [])); rw [List.append_nil]; exact HX, WOut.refl _ _ _⟩
  case round =>
    obtain ⟨k, c', V', hk, rfl, hX, hO⟩ := hrel
    by_cases hlt : k < n
    · have hkn : (k : Int) < n := by omega
      obtain ⟨b, off, rfl, hbl, q0⟩ := (HA.out.woutT hO.out HAP.out).at_ hlt
      have hkP : k < zs.length := by rw [HL.out]; exact hlt
      have htk : zs.take (k + 1) = zs.take k ++ [zs[k]] := List.take_succ_eq_append_getElem hkP
      have hok := HP.out zs[k] (List.getElem_mem hkP)
      have e1 : gi (zs.map fun (z : Nat) => (z : Int)) k = (zs[k] : Int) := by simp [gi, hkP]
      rw [e1] at q0
      have hle : nsN (szP s (zs.take k)) ≤ 800 := by
        rw [szP_N, List.length_take]
        have : min k zs.length ≤ 100 := by omega
        exact Nat.mul_le_mul this hs
      have hcat : Hid (Y ++ nsB (szP s (zs.take (k + 1))) = Y ++ nsB (szP s (zs.take k)) ++ putL zs[k] s) := by
        unfold Hid
        rw [htk]
        unfold szP
        rw [List.map_append, nsB_append, List.append_assoc]
        show Y ++ (nsB _ ++ (putL _ _ ++ [])) = _
        rw [List.append_nil]
      have hcn : Hid (N + nsN (szP s (zs.take (k + 1))) = N + nsN (szP s (zs.take k)) + s) := by
        unfold Hid
        rw [htk]
        unfold szP
        rw [List.map_append, nsN_append, Nat.add_assoc]
        rfl
      generalize zs[k] = v at *
      have hNN : N + nsN (szP s (zs.take k)) ≤ 1000800 := by omega
      generalize Y ++ nsB (szP s (zs.take k)) = Y1 at *
      generalize N + nsN (szP s (zs.take k)) = N1 at *
      clear htk e1 hkP hle
      have hlx := hX.out.lt
      have x0 : wr.cell? ⟨q, 0, none⟩ = some (.slice V' N1 c') := (hX.out.blk.cell 0).trans rfl
      have xf := hX.out.blk.frozen 0
      have hne5 := hX.out.ne
      go_wp2_with fail
      go_region_law ((first
            | (refine step_append_row i0 hi hz0 hz1 hz2 (by rfl) (.tmp 13) (.tmp 16) (by rfl) base (.slice V' N1 c') N1 (cs Y1) (by simp [go_sem]) HO3 (some ⟨g3, 0, none⟩) s s (putL v s) (by simp [go_sem]) (Row.of_own hown3) (by omega) HS3 ?_
               intro v4 w4 hL
               obtain ⟨A4, c4, rfl, hown4, hg4, hnw4⟩ := hL
               have b4 := (((show Blk wr.drew q 31 #[.slice V' N1 c'] from hX.out.blk).below (by exact hlx) hb3).kept hg4 ⟨by have := hb3.size; simp at this; omega, fun e => hne5 q e rfl⟩)
               have f4 := b4.frozen 0
               have z0 : w4.cell? ⟨q, 0, none⟩ = some (.slice V' N1 c') := (b4.cell 0).trans rfl)
            | (go_simp
               refine (Put_c v hok (s : Int) _).mono ?_
               rintro e w3 ⟨g3, rfl, hown3, hb3⟩
               dsimp only
               rw [hs8] at hown3
               rw [hs8]
               have HS3 : base ≤ w3.heap.size := by have h1 := hb3.size; have h2 := hX.out.lo; simp at h1; omega
               have y0 := (hb3.cell (p := ⟨q, 0, none⟩) (by exact hlx)).trans (show wr.drew.cell? ⟨q, 0, none⟩ = _ from x0)
               have HO3 : w3.ownsRow base 5 1 (.slice V' N1 c') N1 (cs Y1) := own_below (show wr.drew.ownsRow base 5 1 (.slice V' N1 c') N1 (cs Y1) from hX.out.own) hb3)))
      all_goals
        rw [← cs_append, ← hcat.out, ← hcn.out] at hown4
        rw [← hcn.out] at hnw4 ⊢
        obtain ⟨x9, o9⟩ := BxO.more (w := wr.drew) ⟨hX.out.blk, hX.out.own, hX.out.ne, hX.out.lo⟩ hb3 hown4 hg4 hnw4
        have X9 := Lib.hid x9
        have O9 := Lib.hid (hO.out.drew.trans o9)
        clear x9 o9 hown4 hg4 hnw4 hown3 hb3 HO3 b4 f4 z0 y0
        go_wp2
        go_roundw
        case rel => exact ⟨k + 1, c4, A4, by omega, by go_num, X9, O9⟩
        case measure => simp [intOf]; omega
    · have hkn : ¬ (k : Int) < n := by omega
      obtain rfl : k = n := by omega
      have ht : zs.take k = zs := by rw [← HL.out, List.take_length]
      rw [ht] at hX hO
      go_wp2
      go_end0
      exact ⟨rfl, V', c', hX.out, hO.out⟩

theorem info_rc : (Tryd.prog.info? 29).map (·.size) = some 13 := by kernel_rfl
theorem ld_rc {w : World} {g : Nat} {C : Array Value} (h : Blk w g 29 C) (hC : C.size = 13) : Sem.run Tryd.prog (loadVar 29 ⟨g, 0, none⟩) w = .ok (.agg C) w :=
  run_loadVar_row w g _ _ _ (0, 0) _ h Tryd.underlying29 rfl (by rw [info_rc, hC])
theorem st_rc {w : World} {g : Nat} {C : Array Value} (h : Blk w g 29 C) (hC : C.size = 13) (D : Array Value) (hD : D.size = 13) (h1 : D.all (·.oneCell') = true) :
    Sem.run Tryd.prog (storeVar 29 ⟨g, 0, none⟩ (.agg D)) w = .ok () (w.setRow g D) :=
  run_storeVar_row w g _ _ _ _ h (by rw [info_rc, hD]) (by rw [hC, hD]) h1
theorem info_rcR : (Tryd.prog.info? 39).map (·.size) = some 13 := by kernel_rfl
theorem ld_rcR {w : World} {g : Nat} {C : Array Value} (h : Blk w g 39 C) (hC : C.size = 13) : Sem.run Tryd.prog (loadVar 39 ⟨g, 0, none⟩) w = .ok (.agg C) w :=
  run_loadVar_row w g _ _ _ (0, 0) _ h Tryd.underlying39 rfl (by rw [info_rcR, hC])
theorem st_rcR {w : World} {g : Nat} {C : Array Value} (h : Blk w g 39 C) (hC : C.size = 13) (D : Array Value) (hD : D.size = 13) (h1 : D.all (·.oneCell') = true) :
    Sem.run Tryd.prog (storeVar 39 ⟨g, 0, none⟩ (.agg D)) w = .ok () (w.setRow g D) :=
  run_storeVar_row w g _ _ _ _ h (by rw [info_rcR, hD]) (by rw [hC, hD]) h1
/-- more numbers, of a row that stands -/
theorem LaySt.putR {w W : World} {T : TypeId} {H : Array Value} {q : Nat} {V : Option Addr} {N c : Nat} {Y : List F} (h : LaySt w W T H q V N c Y) (hN : N ≤ 1000000) (s : Nat) (hs : s ≤ 8) (zs : List Nat) (hz : ∀ z ∈ zs, z < two64) (n : Nat) (hn1 : n ≤ 100) (A : Option Addr) (ca : Nat) (hA : IRow W A n .u64 (zs.map fun (z : Nat) => (z : Int))) (hap : ∀ b o, A = some ⟨b, o, none⟩ → b ≠ q ∧ (Value.slice V N c).ownBlock ≠ some b) :
    Calls Tryd.prog 40 #[.int .i64 (s : Int), .slice A n ca, .pointer (some ⟨q, 0, none⟩)] W fun e w' => e = .returned (.tuple #[]) ∧ ∃ V' c', LaySt w w' T H q V' (N + nsN (szP s zs)) c' (Y ++ nsB (szP s zs)) := by
  refine (cput_c s hs A n ca zs hz hn1 W hA q (w.heap.size + 1) V N c Y h.bx hN hap (by have := h.box.lt; omega)).mono ?_
  rintro e w' ⟨rfl, V', c', hx, ho⟩
  exact ⟨rfl, V', c', h.out hx ho⟩
/-- more numbers, of a row that was just laid -/
theorem LaySt.putC {w W : World} {T : TypeId} {H : Array Value} {q : Nat} {V : Option Addr} {N c : Nat} {Y : List F} (h : LaySt w W T H q V N c Y) (hN : N ≤ 1000000) (s : Nat) (z : Int) (hzs : z = (s : Int)) (hs : s ≤ 8) (zs : List Nat) (hz : ∀ z ∈ zs, z < two64) (n : Nat) (hn : zs.length = n) (hn1 : n ≤ 100) (t : TypeId) (C : Array Value) (hC : C = (uv zs).toArray) (ca a : Nat) (ha : a = W.heap.size) :
    Calls Tryd.prog 40 #[.int .i64 z, .slice (some ⟨a, 0, none⟩) n ca, .pointer (some ⟨q, 0, none⟩)] (W.alloc (.cells C t)) fun e w' => e = .returned (.tuple #[]) ∧ ∃ V' c', LaySt w w' T H q V' (N + nsN (szP s zs)) c' (Y ++ nsB (szP s zs)) := by
  subst ha hzs
  have h1 := h.below ((Below.refl W.heap.size W).alloc (Nat.le_refl _) (.cells C t))
  refine h1.putR hN s hs zs hz n hn1 (some ⟨W.heap.size, 0, none⟩) ca ?_ ?_
  · refine irow_blk (Blk.new W t C) _ n (by rw [hC]; simp [uv]) (by rw [List.length_map]; exact hn) (by unfold maxLen; omega) ?_
    intro x hx
    obtain ⟨q, hq, rfl⟩ := List.mem_map.1 hx
    exact wfU64 _ (hz q hq)
  · intro b o e
    cases e
    have hq := h.bx.lt
    exact ⟨by omega, fun e => by have := (h.bx.own.lt _ e).2; omega⟩
theorem szP_B (s : Nat) (zs : List Nat) : nsN (szP s zs) = zs.length * s := szP_N s zs
theorem exP_szP (c : Rc) : exP c = szP 8 (bgs c) ++ (if 65535 ≤ c.d then szP 4 [c.d] else []) := by
  unfold exP bgs fl szP
  by_cases h1 : 4294967295 ≤ c.h.sz <;> by_cases h2 : 4294967295 ≤ c.h.pk <;> by_cases h3 : 4294967295 ≤ c.o <;> by_cases h4 : 65535 ≤ c.d <;> simp [h1, h2, h3, h4]
theorem putL2_small (n : Nat) (h : n < 256) : putL n 2 = [ofN n, ofN 0] := by
  revert n
  decide
/-- what stands behind the name, as it is laid -/
theorem exB_laid (c : Rc) (h : bh c ≠ 0) : exB c = nsB (szP 2 [1, bh c - 4]) ++ (nsB (szP 8 (bgs c)) ++ nsB (if 65535 ≤ c.d then szP 4 [c.d] else [])) := by
  have hl := exB_length c
  have hb := bh_le c
  have e : nsN (exP c) ≠ 0 := fun e => h (by rw [← hl]; unfold exB; rw [if_pos e]; rfl)
  unfold exB at hl
  rw [if_neg e, List.length_append, nsB_length] at hl
  have h4 : bh c - 4 = nsN (exP c) := by simp at hl; omega
  rw [← nsB_append, ← exP_szP, h4]
  unfold exB
  rw [if_neg e]
  show _ = (putL 1 2 ++ (putL (nsN (exP c)) 2 ++ [])) ++ nsB (exP c)
  rw [putL2_small 1 (by omega), putL2_small (nsN (exP c)) (by omega)]
  rfl
theorem cdB_laid (c : Rc) (m t d : Nat) : [] ++ nsB (szP 4 [33639248]) ++ nsB (szP 2 [45, vnC c, 2048, m, t, d]) ++ nsB (szP 4 [c.h.sum, min c.h.pk 4294967295, min c.h.sz 4294967295]) ++ nsB (szP 2 [c.h.nm.length, bh c, 0, min c.d 65535, 0]) ++ nsB (szP 4 [0, min c.o 4294967295]) ++ nmF c.h.nm ++ exB c = cdB c m t d := by
  unfold cdB cdP szP
  simp [nsB, List.append_assoc]
end Go.Proofs.YtacllgglpjdobaaDoor
