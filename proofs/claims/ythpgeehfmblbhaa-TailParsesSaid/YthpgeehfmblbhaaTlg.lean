/-
  TAILS: the document's End. No conditions.
-/
import Derived.Test.YthpgeehfmblbhaaTlf
namespace Go.Proofs.Ythpgeehfmblbhaa
open Go.RowKit
set_option maxRecDepth 100000
set_option linter.unusedVariables false

def hldZ (x z : Int) : Int := if z < x then z else x
theorem RHeldZ_c (x z : Int) (w : World) :
    Calls Try.prog 25 #[.int .u64 x, .int .u64 z] w fun e w' => e = .returned (.int .u64 (hldZ x z)) ∧ w = w' := by
  go_enter Try.func25, Try.ntmps25
  by_cases h1 : z < x
  · rw [show hldZ x z = z from if_pos h1]
    go_wp2
    go_ret
    try exact ⟨rfl, rfl⟩
  · rw [show hldZ x z = x from if_neg h1]
    go_wp2
    go_ret
    try exact ⟨rfl, rfl⟩
set_option maxHeartbeats 4000000 in
theorem REnd_c (t : Tl) (ht : TlW t) (w : World) :
    Calls Try.prog 15 #[tlV t] w fun e w' => ∃ A c, e = .returned (.slice A 22 c) ∧ w'.ownsRow w.heap.size 5 1 (.slice A 22 c) 22 (cs (nsB (tlP3 t))) ∧ Below w.heap.size w w' := by
  have HP := Lib.hid (tlP3_ok ht)
  have HB := Lib.hid ((Below.refl w.heap.size w).alloc (Nat.le_refl _) (.cells (tlC t) 27))
  obtain ⟨h1, h2, h3, h4, h5, h6, h7, h8, h9⟩ := ht
  obtain ⟨di, st, he, co, sz, o, d6, ds, o6⟩ := t
  unfold two64 at *
  simp only at h1 h2 h3 h4 h5 h6 h7 h8 h9
  have E1 := Lib.hid (show hldZ (di : Int) 65535 = ((min di 65535 : Nat) : Int) by unfold hldZ; omega)
  have E2 := Lib.hid (show hldZ (st : Int) 65535 = ((min st 65535 : Nat) : Int) by unfold hldZ; omega)
  have E3 := Lib.hid (show hldZ (he : Int) 65535 = ((min he 65535 : Nat) : Int) by unfold hldZ; omega)
  have E4 := Lib.hid (show hldZ (co : Int) 65535 = ((min co 65535 : Nat) : Int) by unfold hldZ; omega)
  have E5 := Lib.hid (show hldZ (sz : Int) 4294967295 = ((min sz 4294967295 : Nat) : Int) by unfold hldZ; omega)
  have E6 := Lib.hid (show hldZ (o : Int) 4294967295 = ((min o 4294967295 : Nat) : Int) by unfold hldZ; omega)
  have k1 : IntKind.u64.wrap (di : Int) = (di : Int) := by show (di : Int) % 18446744073709551616 = _; omega
  have k2 : IntKind.u64.wrap (st : Int) = (st : Int) := by show (st : Int) % 18446744073709551616 = _; omega
  unfold tlV tlC at *
  go_enter Try.func15, Try.ntmps15
  go_wp2_with fail
  have b0 : ∀ i, (w.alloc (.cells #[.int .u32 di, .int .u32 st, .int .u64 he, .int .u64 co, .int .u64 sz, .int .u64 o, .int .u32 d6, .int .u32 ds, .int .u64 o6] 27)).cell? ⟨w.heap.size, i, none⟩ = (#[.int .u32 di, .int .u32 st, .int .u64 he, .int .u64 co, .int .u64 sz, .int .u64 o, .int .u32 d6, .int .u32 ds, .int .u64 o6] : Array Value)[i]? := (Blk.new w _ _).cell
  have c0 := show _ = some (Value.int .u32 di) from (b0 0).trans rfl
  have c1 := show _ = some (Value.int .u32 st) from (b0 1).trans rfl
  have c2 := show _ = some (Value.int .u64 he) from (b0 2).trans rfl
  have c3 := show _ = some (Value.int .u64 co) from (b0 3).trans rfl
  have c4 := show _ = some (Value.int .u64 sz) from (b0 4).trans rfl
  have c5 := show _ = some (Value.int .u64 o) from (b0 5).trans rfl
  have hlt : w.heap.size < (w.alloc (.cells #[.int .u32 di, .int .u32 st, .int .u64 he, .int .u64 co, .int .u64 sz, .int .u64 o, .int .u32 d6, .int .u32 ds, .int .u64 o6] 27)).heap.size := by simp
  have HW := HB
  clear b0
  generalize hgg : w.heap.size = g at *
  have HGG := Lib.hid hgg
  clear hgg
  generalize w.alloc (.cells #[.int .u32 di, .int .u32 st, .int .u64 he, .int .u64 co, .int .u64 sz, .int .u64 o, .int .u32 d6, .int .u32 ds, .int .u64 o6] 27) = W at *
  go_region_held3 (fun w' => w'.cell? ⟨g, 0, none⟩ = some (.int .u32 di) ∧ w'.cell? ⟨g, 1, none⟩ = some (.int .u32 st) ∧ w'.cell? ⟨g, 2, none⟩ = some (.int .u64 he) ∧ w'.cell? ⟨g, 3, none⟩ = some (.int .u64 co) ∧ w'.cell? ⟨g, 4, none⟩ = some (.int .u64 sz) ∧ w'.cell? ⟨g, 5, none⟩ = some (.int .u64 o))
    (first
      | go_keep
      | (go_split_ands
         exact ⟨(hb2.cell (p := ⟨g, 0, none⟩) hlt).trans c0, (hb2.cell (p := ⟨g, 1, none⟩) hlt).trans c1, (hb2.cell (p := ⟨g, 2, none⟩) hlt).trans c2, (hb2.cell (p := ⟨g, 3, none⟩) hlt).trans c3, (hb2.cell (p := ⟨g, 4, none⟩) hlt).trans c4, (hb2.cell (p := ⟨g, 5, none⟩) hlt).trans c5⟩))
    ((first
      | (go_at_call 25
         refine (RHeldZ_c _ _ _).mono ?_
         rintro e _ ⟨rfl, rfl⟩)
      | (go_at_call 22
         refine (tlNum2_c (tlP3 ⟨di, st, he, co, sz, o, d6, ds, o6⟩) HP.out 8 rfl (by omega) ?C ?D ?hC ?hD ?T ?S W _ _ _ ?b1 ?b2 8 8 ?h2).mono ?_
         case b1 => repeat' (first | (refine Blk.newT ?_; (first | rfl | (simp; done))) | refine Blk.allocT ?_ _ | refine Blk.drewT ?_)
         case b2 => repeat' (first | (refine Blk.newT ?_; (first | rfl | (simp; done))) | refine Blk.allocT ?_ _ | refine Blk.drewT ?_)
         case h2 => repeat' (first | exact Below.refl _ _ | refine below_drewL ?_ | refine Below.alloc ?_ ?_ _ | (simp; done) | (simp; omega))
         case hC => (rw [E1.out, E2.out, E3.out, E4.out, E5.out, E6.out]; try rfl)
         case hD => rfl
         rintro e W2 ⟨A, c, N, rfl, hown, hN, hb2⟩
         have hN2 : N = 22 := hN.trans rfl
         clear hN
         subst hN2)))
  all_goals
    go_wp2
    go_ret
    exact ⟨A, c, rfl, own_base2 hown (by rw [HGG.out]; omega), by rw [HGG.out]; exact HW.out.trans (hb2.mono (by omega))⟩
end Go.Proofs.Ythpgeehfmblbhaa
