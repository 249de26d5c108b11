/-
  RECORDS OF THE DIRECTORY: the document's bytes of what does not fit, each of the sixteen ways (WRITTEN by wip/gen19d.py). No conditions.
-/
import Derived.Test.YtacllgglpjdobaaDoorCnc
import Derived.Test.YtacllgglpjdobaaDoorLocb
import Derived.Test.YtacllgglpjdobaaDoorJoin
namespace Go.Proofs.YtacllgglpjdobaaDoor
open Go.RowKit
set_option maxRecDepth 100000
set_option linter.unusedVariables false

theorem own_madeC {w : World} {base n : Nat} {e : TypeId} {v : Value} {xs : List Value} (h : w.ownsRow base e 1 v n xs) (hn : 1 ≤ n) : ∃ g c, v = .slice (some ⟨g, 0, none⟩) n c ∧ base ≤ g ∧ g < w.heap.size ∧ n ≤ c ∧ c ≤ maxLen := by
  rcases h.2 with ⟨_, h0⟩ | ⟨g, cap, cur, hv, hb, hg, h1, h2, _⟩
  · omega
  · exact ⟨g, cap, hv, hb, (Array.getElem?_eq_some_iff.1 hg).1, h1, h2⟩
theorem own_someC {g n c m : Nat} (h : g ≠ m) : (Value.slice (some ⟨g, 0, none⟩) n c).ownBlock ≠ some m := fun e => by
  have e2 : some g = some m := e
  injection e2 with e2
  exact h e2
theorem own_newsC {w : World} {base g n c : Nat} {e : TypeId} {l : List F} (h : w.ownsRow base e 1 (.slice (some ⟨g, 0, none⟩) n c) n (cs l)) : ∀ j u, (cs l)[j]? = some u → w.cell? ((⟨g, 0, none⟩ : Addr).add j) = some u := by
  intro j u hu
  have hj : j < n := by
    have h1 := (List.getElem?_eq_some_iff.1 hu).1
    have h2 := h.1
    omega
  have e : (⟨g, 0, none⟩ : Addr).add j = ⟨g, j, none⟩ := by unfold Addr.add; split <;> simp_all
  rw [e, h.cellAt j (by omega)]
  exact hu
theorem RPut8_c (v : Nat) (hv : v < two64) (w : World) : Calls Tryd.prog 47 #[.int .u64 (v : Nat), .int .i64 8] w fun e w' => ∃ g c, e = .returned (.slice (some ⟨g, 0, none⟩) 8 c) ∧ w'.ownsRow w.heap.size 5 1 (.slice (some ⟨g, 0, none⟩) 8 c) 8 (cs (putL v 8)) ∧ Below w.heap.size w w' := by
  refine (RefPut_c v hv 8 w).mono ?_
  rintro e w' ⟨A, c, rfl, hown, hb⟩
  have e8 : heldN 8 8 = 8 := by decide
  rw [e8] at hown ⊢
  obtain ⟨g, c', hv, _⟩ := own_madeC hown (by omega)
  rw [hv] at hown ⊢
  exact ⟨g, c', rfl, hown, hb⟩
theorem RPut4_c (v : Nat) (hv : v < two64) (w : World) : Calls Tryd.prog 47 #[.int .u64 (v : Nat), .int .i64 4] w fun e w' => ∃ g c, e = .returned (.slice (some ⟨g, 0, none⟩) 4 c) ∧ w'.ownsRow w.heap.size 5 1 (.slice (some ⟨g, 0, none⟩) 4 c) 4 (cs (putL v 4)) ∧ Below w.heap.size w w' := by
  refine (RefPut_c v hv 4 w).mono ?_
  rintro e w' ⟨A, c, rfl, hown, hb⟩
  have e8 : heldN 4 8 = 4 := by decide
  rw [e8] at hown ⊢
  obtain ⟨g, c', hv, _⟩ := own_madeC hown (by omega)
  rw [hv] at hown ⊢
  exact ⟨g, c', rfl, hown, hb⟩
theorem Join2C_c {w : World} {A B : Option Addr} {a b ca cb : Nat} {la lb : List F} (hA : RowIn w A a ca la) (hB : RowIn w B b cb lb) (h1 : a ≤ 1000000) (h2 : b ≤ 1000000) (T : TypeId) (g : Nat) (hg : g = w.heap.size) :
    Calls Tryd.prog 45 #[.slice (some ⟨g, 0, none⟩) 2 2] (w.alloc (.cells #[.slice A a ca, .slice B b cb] T)) fun e w' => ∃ E N c, e = .returned (.slice E N c) ∧ w'.ownsRow w.heap.size 5 1 (.slice E N c) N (cs (la ++ lb)) ∧ N = a + b ∧ Below w.heap.size w w' := by
  subst hg
  have hM := rows_lit (w := w) (n := 2) (RA := fun r => if r = 0 then A else B) (RL := fun r => if r = 0 then a else b) (RC := fun r => if r = 0 then ca else cb) (R := fun r => if r = 0 then la else lb) (fun r hr => by
    rcases (show r = 0 ∨ r = 1 by omega) with rfl | rfl
    · exact hA
    · exact hB) #[.slice A a ca, .slice B b cb] (fun r hr => by
    rcases (show r = 0 ∨ r = 1 by omega) with rfl | rfl <;> rfl) T (by unfold maxLen; omega)
  refine (Join_c hM (by omega) (fun r hr => by
    rcases (show r = 0 ∨ r = 1 by omega) with rfl | rfl
    · show a ≤ _; omega
    · show b ≤ _; omega)).mono ?_
  rintro e w' ⟨g, c, rfl, hown, hb⟩
  have hj : joinTo (fun r => if r = 0 then la else lb) 2 = la ++ lb := by
    show (([] ++ la) ++ lb) = _
    rw [List.nil_append]
  have hl : lenTo (fun r => if r = 0 then a else b) 2 = a + b := by
    show ((0 + a) + b) = _
    omega
  rw [hj] at hown
  have hba := (Below.refl w.heap.size w).alloc (Nat.le_refl _) (.cells #[.slice A a ca, .slice B b cb] T)
  exact ⟨_, _, c, rfl, own_base2 hown (by simp), hl, hba.trans (hb.mono (by simp))⟩
theorem nsB_snoc (P : List (Nat × Nat)) (v s : Nat) : cs (nsB P) ++ cs (putL v s) = cs (nsB (P ++ [(v, s)])) := by
  rw [nsB_append, cs_append]
  congr 1
  show _ = cs (putL v s ++ [])
  rw [List.append_nil]
set_option maxHeartbeats 2000000 in
theorem extra_0 {m y mo d hh mi s : Int} {sum p z k o : Nat} {nm : List UInt8} (hwz : z < two64) (hwp : p < two64) (hwo : o < two64) (hwk : k < 4294967296) (iz : decide ((4294967295 : Int) ≤ (z : Int)) = false) (ip : decide ((4294967295 : Int) ≤ (p : Int)) = false) (io : decide ((4294967295 : Int) ≤ (o : Int)) = false) (ik : decide ((65535 : Int) ≤ (k : Int)) = false) (w : World) :
    Calls Tryd.prog 28 #[.agg #[.int .i64 m, .int .i64 y, .int .i64 mo, .int .i64 d, .int .i64 hh, .int .i64 mi, .int .i64 s, .int .u32 sum, .int .u64 p, .int .u64 z, .string (S nm), .int .u32 k, .int .u64 o]] w fun e w' => ∃ A c', e = .returned (.slice A 0 c') ∧ w'.ownsRow w.heap.size 5 1 (.slice A 0 c') 0 (cs ([])) ∧ Below w.heap.size w w' := by
  obtain ⟨i0, hi, hz0, hz1, hz2⟩ := info_parts info_u8
  have hk64 : k < two64 := by unfold two64; omega
  have hkw : IntKind.u64.wrap (k : Int) = (k : Int) := by rw [IntKind.wrap_u64]; omega
  have hb1 := (Below.refl w.heap.size w).alloc (Nat.le_refl _) (.cells #[.int .i64 m, .int .i64 y, .int .i64 mo, .int .i64 d, .int .i64 hh, .int .i64 mi, .int .i64 s, .int .u32 sum, .int .u64 p, .int .u64 z, .string (S nm), .int .u32 k, .int .u64 o] 39)
  have HB0 := Lib.hid (hb1.alloc (by simp) (.cells #[] 5))
  have HX0 : Hid (Blk ((w.alloc (.cells #[.int .i64 m, .int .i64 y, .int .i64 mo, .int .i64 d, .int .i64 hh, .int .i64 mi, .int .i64 s, .int .u32 sum, .int .u64 p, .int .u64 z, .string (S nm), .int .u32 k, .int .u64 o] 39)).alloc (.cells #[] 5)) w.heap.size 39 #[.int .i64 m, .int .i64 y, .int .i64 mo, .int .i64 d, .int .i64 hh, .int .i64 mi, .int .i64 s, .int .u32 sum, .int .u64 p, .int .u64 z, .string (S nm), .int .u32 k, .int .u64 o]) := (Blk.new w 39 #[.int .i64 m, .int .i64 y, .int .i64 mo, .int .i64 d, .int .i64 hh, .int .i64 mi, .int .i64 s, .int .u32 sum, .int .u64 p, .int .u64 z, .string (S nm), .int .u32 k, .int .u64 o]).below (Blk.new w 39 #[.int .i64 m, .int .i64 y, .int .i64 mo, .int .i64 d, .int .i64 hh, .int .i64 mi, .int .i64 s, .int .u32 sum, .int .u64 p, .int .u64 z, .string (S nm), .int .u32 k, .int .u64 o]).lt ((Below.refl _ _).alloc (Nat.le_refl _) _)
  have HO0 : Hid (((w.alloc (.cells #[.int .i64 m, .int .i64 y, .int .i64 mo, .int .i64 d, .int .i64 hh, .int .i64 mi, .int .i64 s, .int .u32 sum, .int .u64 p, .int .u64 z, .string (S nm), .int .u32 k, .int .u64 o] 39)).alloc (.cells #[] 5)).ownsRow (w.heap.size + 1) 5 1 (.slice (some ⟨w.heap.size + 1, 0, none⟩) 0 0) 0 (cs (nsB []))) := by
    have h := World.ownsRow_made (base := w.heap.size + 1) (e := 5) (size := 1) (w.alloc (.cells #[.int .i64 m, .int .i64 y, .int .i64 mo, .int .i64 d, .int .i64 hh, .int .i64 mi, .int .i64 s, .int .u32 sum, .int .u64 p, .int .u64 z, .string (S nm), .int .u32 k, .int .u64 o] 39)) #[] 0 (by simp) (Nat.zero_le _) rfl
    have e : (w.alloc (.cells #[.int .i64 m, .int .i64 y, .int .i64 mo, .int .i64 d, .int .i64 hh, .int .i64 mi, .int .i64 s, .int .u32 sum, .int .u64 p, .int .u64 z, .string (S nm), .int .u32 k, .int .u64 o] 39)).heap.size = w.heap.size + 1 := by simp
    rw [e] at h
    exact h
  have hge0 : w.heap.size + 1 ≤ w.heap.size + 1 := Nat.le_refl _
  have hs0 : w.heap.size + 1 ≤ ((w.alloc (.cells #[.int .i64 m, .int .i64 y, .int .i64 mo, .int .i64 d, .int .i64 hh, .int .i64 mi, .int .i64 s, .int .u32 sum, .int .u64 p, .int .u64 z, .string (S nm), .int .u32 k, .int .u64 o] 39)).alloc (.cells #[] 5)).heap.size := by simp
  clear hb1
  go_enter Tryd.func28, Tryd.ntmps28
  go_wp2_with fail
  go_ret
  exact ⟨_, _, rfl, own_base2 HO0.out (by omega), HB0.out⟩
set_option maxHeartbeats 2000000 in
theorem extra_1 {m y mo d hh mi s : Int} {sum p z k o : Nat} {nm : List UInt8} (hwz : z < two64) (hwp : p < two64) (hwo : o < two64) (hwk : k < 4294967296) (iz : decide ((4294967295 : Int) ≤ (z : Int)) = true) (ip : decide ((4294967295 : Int) ≤ (p : Int)) = false) (io : decide ((4294967295 : Int) ≤ (o : Int)) = false) (ik : decide ((65535 : Int) ≤ (k : Int)) = false) (w : World) :
    Calls Tryd.prog 28 #[.agg #[.int .i64 m, .int .i64 y, .int .i64 mo, .int .i64 d, .int .i64 hh, .int .i64 mi, .int .i64 s, .int .u32 sum, .int .u64 p, .int .u64 z, .string (S nm), .int .u32 k, .int .u64 o]] w fun e w' => ∃ A c', e = .returned (.slice A 12 c') ∧ w'.ownsRow w.heap.size 5 1 (.slice A 12 c') 12 (cs ([ofN 1, ofN 0, ofN 8, ofN 0] ++ nsB [(z, 8)])) ∧ Below w.heap.size w w' := by
  obtain ⟨i0, hi, hz0, hz1, hz2⟩ := info_parts info_u8
  have hk64 : k < two64 := by unfold two64; omega
  have hkw : IntKind.u64.wrap (k : Int) = (k : Int) := by rw [IntKind.wrap_u64]; omega
  have hb1 := (Below.refl w.heap.size w).alloc (Nat.le_refl _) (.cells #[.int .i64 m, .int .i64 y, .int .i64 mo, .int .i64 d, .int .i64 hh, .int .i64 mi, .int .i64 s, .int .u32 sum, .int .u64 p, .int .u64 z, .string (S nm), .int .u32 k, .int .u64 o] 39)
  have HB0 := Lib.hid (hb1.alloc (by simp) (.cells #[] 5))
  have HX0 : Hid (Blk ((w.alloc (.cells #[.int .i64 m, .int .i64 y, .int .i64 mo, .int .i64 d, .int .i64 hh, .int .i64 mi, .int .i64 s, .int .u32 sum, .int .u64 p, .int .u64 z, .string (S nm), .int .u32 k, .int .u64 o] 39)).alloc (.cells #[] 5)) w.heap.size 39 #[.int .i64 m, .int .i64 y, .int .i64 mo, .int .i64 d, .int .i64 hh, .int .i64 mi, .int .i64 s, .int .u32 sum, .int .u64 p, .int .u64 z, .string (S nm), .int .u32 k, .int .u64 o]) := (Blk.new w 39 #[.int .i64 m, .int .i64 y, .int .i64 mo, .int .i64 d, .int .i64 hh, .int .i64 mi, .int .i64 s, .int .u32 sum, .int .u64 p, .int .u64 z, .string (S nm), .int .u32 k, .int .u64 o]).below (Blk.new w 39 #[.int .i64 m, .int .i64 y, .int .i64 mo, .int .i64 d, .int .i64 hh, .int .i64 mi, .int .i64 s, .int .u32 sum, .int .u64 p, .int .u64 z, .string (S nm), .int .u32 k, .int .u64 o]).lt ((Below.refl _ _).alloc (Nat.le_refl _) _)
  have HO0 : Hid (((w.alloc (.cells #[.int .i64 m, .int .i64 y, .int .i64 mo, .int .i64 d, .int .i64 hh, .int .i64 mi, .int .i64 s, .int .u32 sum, .int .u64 p, .int .u64 z, .string (S nm), .int .u32 k, .int .u64 o] 39)).alloc (.cells #[] 5)).ownsRow (w.heap.size + 1) 5 1 (.slice (some ⟨w.heap.size + 1, 0, none⟩) 0 0) 0 (cs (nsB []))) := by
    have h := World.ownsRow_made (base := w.heap.size + 1) (e := 5) (size := 1) (w.alloc (.cells #[.int .i64 m, .int .i64 y, .int .i64 mo, .int .i64 d, .int .i64 hh, .int .i64 mi, .int .i64 s, .int .u32 sum, .int .u64 p, .int .u64 z, .string (S nm), .int .u32 k, .int .u64 o] 39)) #[] 0 (by simp) (Nat.zero_le _) rfl
    have e : (w.alloc (.cells #[.int .i64 m, .int .i64 y, .int .i64 mo, .int .i64 d, .int .i64 hh, .int .i64 mi, .int .i64 s, .int .u32 sum, .int .u64 p, .int .u64 z, .string (S nm), .int .u32 k, .int .u64 o] 39)).heap.size = w.heap.size + 1 := by simp
    rw [e] at h
    exact h
  have hge0 : w.heap.size + 1 ≤ w.heap.size + 1 := Nat.le_refl _
  have hs0 : w.heap.size + 1 ≤ ((w.alloc (.cells #[.int .i64 m, .int .i64 y, .int .i64 mo, .int .i64 d, .int .i64 hh, .int .i64 mi, .int .i64 s, .int .u32 sum, .int .u64 p, .int .u64 z, .string (S nm), .int .u32 k, .int .u64 o] 39)).alloc (.cells #[] 5)).heap.size := by simp
  clear hb1
  go_enter Tryd.func28, Tryd.ntmps28
  go_wp2_with fail
  refine (RPut8_c z hwz _).mono ?_
  rintro e wp ⟨gp, cp, rfl, hownp, hbp⟩
  have HNp := Lib.hid (own_newsC hownp)
  have HOp := Lib.hid (own_below HO0.out hbp)
  have HBp := Lib.hid (HB0.out.trans (hbp.mono (Nat.le_trans (Nat.le_succ _) hs0)))
  have HXp := Lib.hid (HX0.out.below HX0.out.lt hbp)
  have hsp := HXp.out.lt
  have hs : w.heap.size + 1 ≤ wp.heap.size := Nat.le_trans hs0 hbp.size
  clear hbp hownp HO0 HB0 HX0 hs0
  have x9 := (HXp.out.cell 9).trans (show _ = some (Value.int .u64 (z : Nat)) from rfl)
  have x8 := (HXp.out.cell 8).trans (show _ = some (Value.int .u64 (p : Nat)) from rfl)
  have x12 := (HXp.out.cell 12).trans (show _ = some (Value.int .u64 (o : Nat)) from rfl)
  have x11 := (HXp.out.cell 11).trans (show _ = some (Value.int .u32 (k : Nat)) from rfl)
  go_wp2_with (at_builtin; refine wpList_append_own _ rfl _ _ 31 rfl (w.heap.size + 1) 5 i0 (.int .u8 0) 1 1 Tryd.underlying31 hi hz0 hz1 hz2 rfl (by decide) _ 0 (cs (nsB [])) rfl HOp.out ⟨gp, 0, none⟩ 8 cp (cs (putL z 8)) rfl (by rw [cs_length, putL_length]) HNp.out (cs_one _) (by unfold maxLen; omega) (by omega) hs ?_; intro v1 w1 hown1 hgrow1 hnil1; rw [nsB_snoc] at hown1; obtain ⟨g1, c1, rfl, hge1, hgl1, _, _⟩ := own_madeC hown1 (by omega); have hX1 := HXp.out.kept hgrow1 ⟨hsp, own_someC (by omega)⟩; clear x9 x8 x12 x11; have x9 := (hX1.cell 9).trans (show _ = some (Value.int .u64 (z : Nat)) from rfl); have x8 := (hX1.cell 8).trans (show _ = some (Value.int .u64 (p : Nat)) from rfl); have x12 := (hX1.cell 12).trans (show _ = some (Value.int .u64 (o : Nat)) from rfl); have x11 := (hX1.cell 11).trans (show _ = some (Value.int .u32 (k : Nat)) from rfl))
  have HB1 : Hid (Below w.heap.size w w1) := HBp.out.grown hgrow1 (by omega) (fun q hq => by
    have e2 : some (w.heap.size + 1) = some q := hq
    injection e2 with e2
    omega)
  have HO1 := Lib.hid hown1
  have HX1 := Lib.hid hX1
  have hs1 : w.heap.size + 1 ≤ w1.heap.size := by omega
  clear hgrow1 hnil1 hown1 hX1 x9 x8 x12 x11 HBp HOp HXp HNp hsp hs
  have ha1 := (Below.refl w1.heap.size w1).alloc (Nat.le_refl _) (.cells #[.int .u8 1, .int .u8 0, .int .u8 8, .int .u8 0] 5)
  have HR1 := Lib.hid (own_in (l := [ofN 1, ofN 0, ofN 8, ofN 0]) (World.ownsRow_lit (base := w1.heap.size) (e := 5) (size := 1) w1 #[.int .u8 1, .int .u8 0, .int .u8 8, .int .u8 0] 4 (Nat.le_refl _) (by unfold maxLen; omega) rfl))
  have HR2 := Lib.hid (own_in (own_below HO1.out ha1))
  have HBa := Lib.hid (HB1.out.trans (ha1.mono (by omega)))
  have hsa : w.heap.size ≤ (w1.alloc (.cells #[.int .u8 1, .int .u8 0, .int .u8 8, .int .u8 0] 5)).heap.size := HBa.out.size
  clear ha1
  refine (Join2C_c HR1.out HR2.out (by omega) (by omega) _ _ (by simp)).mono ?_
  rintro e wj ⟨E, N, cj, rfl, hownj, hN, hbj⟩
  obtain rfl : N = 12 := hN
  have HOj := Lib.hid hownj
  have HBj := Lib.hid (HBa.out.trans (hbj.mono hsa))
  clear hbj hownj
  go_wp2
  go_ret
  exact ⟨_, _, rfl, own_base2 HOj.out hsa, HBj.out⟩
set_option maxHeartbeats 2000000 in
theorem extra_2 {m y mo d hh mi s : Int} {sum p z k o : Nat} {nm : List UInt8} (hwz : z < two64) (hwp : p < two64) (hwo : o < two64) (hwk : k < 4294967296) (iz : decide ((4294967295 : Int) ≤ (z : Int)) = false) (ip : decide ((4294967295 : Int) ≤ (p : Int)) = true) (io : decide ((4294967295 : Int) ≤ (o : Int)) = false) (ik : decide ((65535 : Int) ≤ (k : Int)) = false) (w : World) :
    Calls Tryd.prog 28 #[.agg #[.int .i64 m, .int .i64 y, .int .i64 mo, .int .i64 d, .int .i64 hh, .int .i64 mi, .int .i64 s, .int .u32 sum, .int .u64 p, .int .u64 z, .string (S nm), .int .u32 k, .int .u64 o]] w fun e w' => ∃ A c', e = .returned (.slice A 12 c') ∧ w'.ownsRow w.heap.size 5 1 (.slice A 12 c') 12 (cs ([ofN 1, ofN 0, ofN 8, ofN 0] ++ nsB [(p, 8)])) ∧ Below w.heap.size w w' := by
  obtain ⟨i0, hi, hz0, hz1, hz2⟩ := info_parts info_u8
  have hk64 : k < two64 := by unfold two64; omega
  have hkw : IntKind.u64.wrap (k : Int) = (k : Int) := by rw [IntKind.wrap_u64]; omega
  have hb1 := (Below.refl w.heap.size w).alloc (Nat.le_refl _) (.cells #[.int .i64 m, .int .i64 y, .int .i64 mo, .int .i64 d, .int .i64 hh, .int .i64 mi, .int .i64 s, .int .u32 sum, .int .u64 p, .int .u64 z, .string (S nm), .int .u32 k, .int .u64 o] 39)
  have HB0 := Lib.hid (hb1.alloc (by simp) (.cells #[] 5))
  have HX0 : Hid (Blk ((w.alloc (.cells #[.int .i64 m, .int .i64 y, .int .i64 mo, .int .i64 d, .int .i64 hh, .int .i64 mi, .int .i64 s, .int .u32 sum, .int .u64 p, .int .u64 z, .string (S nm), .int .u32 k, .int .u64 o] 39)).alloc (.cells #[] 5)) w.heap.size 39 #[.int .i64 m, .int .i64 y, .int .i64 mo, .int .i64 d, .int .i64 hh, .int .i64 mi, .int .i64 s, .int .u32 sum, .int .u64 p, .int .u64 z, .string (S nm), .int .u32 k, .int .u64 o]) := (Blk.new w 39 #[.int .i64 m, .int .i64 y, .int .i64 mo, .int .i64 d, .int .i64 hh, .int .i64 mi, .int .i64 s, .int .u32 sum, .int .u64 p, .int .u64 z, .string (S nm), .int .u32 k, .int .u64 o]).below (Blk.new w 39 #[.int .i64 m, .int .i64 y, .int .i64 mo, .int .i64 d, .int .i64 hh, .int .i64 mi, .int .i64 s, .int .u32 sum, .int .u64 p, .int .u64 z, .string (S nm), .int .u32 k, .int .u64 o]).lt ((Below.refl _ _).alloc (Nat.le_refl _) _)
  have HO0 : Hid (((w.alloc (.cells #[.int .i64 m, .int .i64 y, .int .i64 mo, .int .i64 d, .int .i64 hh, .int .i64 mi, .int .i64 s, .int .u32 sum, .int .u64 p, .int .u64 z, .string (S nm), .int .u32 k, .int .u64 o] 39)).alloc (.cells #[] 5)).ownsRow (w.heap.size + 1) 5 1 (.slice (some ⟨w.heap.size + 1, 0, none⟩) 0 0) 0 (cs (nsB []))) := by
    have h := World.ownsRow_made (base := w.heap.size + 1) (e := 5) (size := 1) (w.alloc (.cells #[.int .i64 m, .int .i64 y, .int .i64 mo, .int .i64 d, .int .i64 hh, .int .i64 mi, .int .i64 s, .int .u32 sum, .int .u64 p, .int .u64 z, .string (S nm), .int .u32 k, .int .u64 o] 39)) #[] 0 (by simp) (Nat.zero_le _) rfl
    have e : (w.alloc (.cells #[.int .i64 m, .int .i64 y, .int .i64 mo, .int .i64 d, .int .i64 hh, .int .i64 mi, .int .i64 s, .int .u32 sum, .int .u64 p, .int .u64 z, .string (S nm), .int .u32 k, .int .u64 o] 39)).heap.size = w.heap.size + 1 := by simp
    rw [e] at h
    exact h
  have hge0 : w.heap.size + 1 ≤ w.heap.size + 1 := Nat.le_refl _
  have hs0 : w.heap.size + 1 ≤ ((w.alloc (.cells #[.int .i64 m, .int .i64 y, .int .i64 mo, .int .i64 d, .int .i64 hh, .int .i64 mi, .int .i64 s, .int .u32 sum, .int .u64 p, .int .u64 z, .string (S nm), .int .u32 k, .int .u64 o] 39)).alloc (.cells #[] 5)).heap.size := by simp
  clear hb1
  go_enter Tryd.func28, Tryd.ntmps28
  go_wp2_with fail
  refine (RPut8_c p hwp _).mono ?_
  rintro e wp ⟨gp, cp, rfl, hownp, hbp⟩
  have HNp := Lib.hid (own_newsC hownp)
  have HOp := Lib.hid (own_below HO0.out hbp)
  have HBp := Lib.hid (HB0.out.trans (hbp.mono (Nat.le_trans (Nat.le_succ _) hs0)))
  have HXp := Lib.hid (HX0.out.below HX0.out.lt hbp)
  have hsp := HXp.out.lt
  have hs : w.heap.size + 1 ≤ wp.heap.size := Nat.le_trans hs0 hbp.size
  clear hbp hownp HO0 HB0 HX0 hs0
  have x9 := (HXp.out.cell 9).trans (show _ = some (Value.int .u64 (z : Nat)) from rfl)
  have x8 := (HXp.out.cell 8).trans (show _ = some (Value.int .u64 (p : Nat)) from rfl)
  have x12 := (HXp.out.cell 12).trans (show _ = some (Value.int .u64 (o : Nat)) from rfl)
  have x11 := (HXp.out.cell 11).trans (show _ = some (Value.int .u32 (k : Nat)) from rfl)
  go_wp2_with (at_builtin; refine wpList_append_own _ rfl _ _ 31 rfl (w.heap.size + 1) 5 i0 (.int .u8 0) 1 1 Tryd.underlying31 hi hz0 hz1 hz2 rfl (by decide) _ 0 (cs (nsB [])) rfl HOp.out ⟨gp, 0, none⟩ 8 cp (cs (putL p 8)) rfl (by rw [cs_length, putL_length]) HNp.out (cs_one _) (by unfold maxLen; omega) (by omega) hs ?_; intro v1 w1 hown1 hgrow1 hnil1; rw [nsB_snoc] at hown1; obtain ⟨g1, c1, rfl, hge1, hgl1, _, _⟩ := own_madeC hown1 (by omega); have hX1 := HXp.out.kept hgrow1 ⟨hsp, own_someC (by omega)⟩; clear x9 x8 x12 x11; have x9 := (hX1.cell 9).trans (show _ = some (Value.int .u64 (z : Nat)) from rfl); have x8 := (hX1.cell 8).trans (show _ = some (Value.int .u64 (p : Nat)) from rfl); have x12 := (hX1.cell 12).trans (show _ = some (Value.int .u64 (o : Nat)) from rfl); have x11 := (hX1.cell 11).trans (show _ = some (Value.int .u32 (k : Nat)) from rfl))
  have HB1 : Hid (Below w.heap.size w w1) := HBp.out.grown hgrow1 (by omega) (fun q hq => by
    have e2 : some (w.heap.size + 1) = some q := hq
    injection e2 with e2
    omega)
  have HO1 := Lib.hid hown1
  have HX1 := Lib.hid hX1
  have hs1 : w.heap.size + 1 ≤ w1.heap.size := by omega
  clear hgrow1 hnil1 hown1 hX1 x9 x8 x12 x11 HBp HOp HXp HNp hsp hs
  have ha1 := (Below.refl w1.heap.size w1).alloc (Nat.le_refl _) (.cells #[.int .u8 1, .int .u8 0, .int .u8 8, .int .u8 0] 5)
  have HR1 := Lib.hid (own_in (l := [ofN 1, ofN 0, ofN 8, ofN 0]) (World.ownsRow_lit (base := w1.heap.size) (e := 5) (size := 1) w1 #[.int .u8 1, .int .u8 0, .int .u8 8, .int .u8 0] 4 (Nat.le_refl _) (by unfold maxLen; omega) rfl))
  have HR2 := Lib.hid (own_in (own_below HO1.out ha1))
  have HBa := Lib.hid (HB1.out.trans (ha1.mono (by omega)))
  have hsa : w.heap.size ≤ (w1.alloc (.cells #[.int .u8 1, .int .u8 0, .int .u8 8, .int .u8 0] 5)).heap.size := HBa.out.size
  clear ha1
  refine (Join2C_c HR1.out HR2.out (by omega) (by omega) _ _ (by simp)).mono ?_
  rintro e wj ⟨E, N, cj, rfl, hownj, hN, hbj⟩
  obtain rfl : N = 12 := hN
  have HOj := Lib.hid hownj
  have HBj := Lib.hid (HBa.out.trans (hbj.mono hsa))
  clear hbj hownj
  go_wp2
  go_ret
  exact ⟨_, _, rfl, own_base2 HOj.out hsa, HBj.out⟩
set_option maxHeartbeats 2000000 in
theorem extra_3 {m y mo d hh mi s : Int} {sum p z k o : Nat} {nm : List UInt8} (hwz : z < two64) (hwp : p < two64) (hwo : o < two64) (hwk : k < 4294967296) (iz : decide ((4294967295 : Int) ≤ (z : Int)) = true) (ip : decide ((4294967295 : Int) ≤ (p : Int)) = true) (io : decide ((4294967295 : Int) ≤ (o : Int)) = false) (ik : decide ((65535 : Int) ≤ (k : Int)) = false) (w : World) :
    Calls Tryd.prog 28 #[.agg #[.int .i64 m, .int .i64 y, .int .i64 mo, .int .i64 d, .int .i64 hh, .int .i64 mi, .int .i64 s, .int .u32 sum, .int .u64 p, .int .u64 z, .string (S nm), .int .u32 k, .int .u64 o]] w fun e w' => ∃ A c', e = .returned (.slice A 20 c') ∧ w'.ownsRow w.heap.size 5 1 (.slice A 20 c') 20 (cs ([ofN 1, ofN 0, ofN 16, ofN 0] ++ nsB [(z, 8), (p, 8)])) ∧ Below w.heap.size w w' := by
  obtain ⟨i0, hi, hz0, hz1, hz2⟩ := info_parts info_u8
  have hk64 : k < two64 := by unfold two64; omega
  have hkw : IntKind.u64.wrap (k : Int) = (k : Int) := by rw [IntKind.wrap_u64]; omega
  have hb1 := (Below.refl w.heap.size w).alloc (Nat.le_refl _) (.cells #[.int .i64 m, .int .i64 y, .int .i64 mo, .int .i64 d, .int .i64 hh, .int .i64 mi, .int .i64 s, .int .u32 sum, .int .u64 p, .int .u64 z, .string (S nm), .int .u32 k, .int .u64 o] 39)
  have HB0 := Lib.hid (hb1.alloc (by simp) (.cells #[] 5))
  have HX0 : Hid (Blk ((w.alloc (.cells #[.int .i64 m, .int .i64 y, .int .i64 mo, .int .i64 d, .int .i64 hh, .int .i64 mi, .int .i64 s, .int .u32 sum, .int .u64 p, .int .u64 z, .string (S nm), .int .u32 k, .int .u64 o] 39)).alloc (.cells #[] 5)) w.heap.size 39 #[.int .i64 m, .int .i64 y, .int .i64 mo, .int .i64 d, .int .i64 hh, .int .i64 mi, .int .i64 s, .int .u32 sum, .int .u64 p, .int .u64 z, .string (S nm), .int .u32 k, .int .u64 o]) := (Blk.new w 39 #[.int .i64 m, .int .i64 y, .int .i64 mo, .int .i64 d, .int .i64 hh, .int .i64 mi, .int .i64 s, .int .u32 sum, .int .u64 p, .int .u64 z, .string (S nm), .int .u32 k, .int .u64 o]).below (Blk.new w 39 #[.int .i64 m, .int .i64 y, .int .i64 mo, .int .i64 d, .int .i64 hh, .int .i64 mi, .int .i64 s, .int .u32 sum, .int .u64 p, .int .u64 z, .string (S nm), .int .u32 k, .int .u64 o]).lt ((Below.refl _ _).alloc (Nat.le_refl _) _)
  have HO0 : Hid (((w.alloc (.cells #[.int .i64 m, .int .i64 y, .int .i64 mo, .int .i64 d, .int .i64 hh, .int .i64 mi, .int .i64 s, .int .u32 sum, .int .u64 p, .int .u64 z, .string (S nm), .int .u32 k, .int .u64 o] 39)).alloc (.cells #[] 5)).ownsRow (w.heap.size + 1) 5 1 (.slice (some ⟨w.heap.size + 1, 0, none⟩) 0 0) 0 (cs (nsB []))) := by
    have h := World.ownsRow_made (base := w.heap.size + 1) (e := 5) (size := 1) (w.alloc (.cells #[.int .i64 m, .int .i64 y, .int .i64 mo, .int .i64 d, .int .i64 hh, .int .i64 mi, .int .i64 s, .int .u32 sum, .int .u64 p, .int .u64 z, .string (S nm), .int .u32 k, .int .u64 o] 39)) #[] 0 (by simp) (Nat.zero_le _) rfl
    have e : (w.alloc (.cells #[.int .i64 m, .int .i64 y, .int .i64 mo, .int .i64 d, .int .i64 hh, .int .i64 mi, .int .i64 s, .int .u32 sum, .int .u64 p, .int .u64 z, .string (S nm), .int .u32 k, .int .u64 o] 39)).heap.size = w.heap.size + 1 := by simp
    rw [e] at h
    exact h
  have hge0 : w.heap.size + 1 ≤ w.heap.size + 1 := Nat.le_refl _
  have hs0 : w.heap.size + 1 ≤ ((w.alloc (.cells #[.int .i64 m, .int .i64 y, .int .i64 mo, .int .i64 d, .int .i64 hh, .int .i64 mi, .int .i64 s, .int .u32 sum, .int .u64 p, .int .u64 z, .string (S nm), .int .u32 k, .int .u64 o] 39)).alloc (.cells #[] 5)).heap.size := by simp
  clear hb1
  go_enter Tryd.func28, Tryd.ntmps28
  go_wp2_with fail
  refine (RPut8_c z hwz _).mono ?_
  rintro e wp ⟨gp, cp, rfl, hownp, hbp⟩
  have HNp := Lib.hid (own_newsC hownp)
  have HOp := Lib.hid (own_below HO0.out hbp)
  have HBp := Lib.hid (HB0.out.trans (hbp.mono (Nat.le_trans (Nat.le_succ _) hs0)))
  have HXp := Lib.hid (HX0.out.below HX0.out.lt hbp)
  have hsp := HXp.out.lt
  have hs : w.heap.size + 1 ≤ wp.heap.size := Nat.le_trans hs0 hbp.size
  clear hbp hownp HO0 HB0 HX0 hs0
  have x9 := (HXp.out.cell 9).trans (show _ = some (Value.int .u64 (z : Nat)) from rfl)
  have x8 := (HXp.out.cell 8).trans (show _ = some (Value.int .u64 (p : Nat)) from rfl)
  have x12 := (HXp.out.cell 12).trans (show _ = some (Value.int .u64 (o : Nat)) from rfl)
  have x11 := (HXp.out.cell 11).trans (show _ = some (Value.int .u32 (k : Nat)) from rfl)
  go_wp2_with (at_builtin; refine wpList_append_own _ rfl _ _ 31 rfl (w.heap.size + 1) 5 i0 (.int .u8 0) 1 1 Tryd.underlying31 hi hz0 hz1 hz2 rfl (by decide) _ 0 (cs (nsB [])) rfl HOp.out ⟨gp, 0, none⟩ 8 cp (cs (putL z 8)) rfl (by rw [cs_length, putL_length]) HNp.out (cs_one _) (by unfold maxLen; omega) (by omega) hs ?_; intro v1 w1 hown1 hgrow1 hnil1; rw [nsB_snoc] at hown1; obtain ⟨g1, c1, rfl, hge1, hgl1, _, _⟩ := own_madeC hown1 (by omega); have hX1 := HXp.out.kept hgrow1 ⟨hsp, own_someC (by omega)⟩; clear x9 x8 x12 x11; have x9 := (hX1.cell 9).trans (show _ = some (Value.int .u64 (z : Nat)) from rfl); have x8 := (hX1.cell 8).trans (show _ = some (Value.int .u64 (p : Nat)) from rfl); have x12 := (hX1.cell 12).trans (show _ = some (Value.int .u64 (o : Nat)) from rfl); have x11 := (hX1.cell 11).trans (show _ = some (Value.int .u32 (k : Nat)) from rfl))
  have HB1 : Hid (Below w.heap.size w w1) := HBp.out.grown hgrow1 (by omega) (fun q hq => by
    have e2 : some (w.heap.size + 1) = some q := hq
    injection e2 with e2
    omega)
  have HO1 := Lib.hid hown1
  have HX1 := Lib.hid hX1
  have hs1 : w.heap.size + 1 ≤ w1.heap.size := by omega
  clear hgrow1 hnil1 hown1 hX1 x9 x8 x12 x11 HBp HOp HXp HNp hsp hs
  refine (RPut8_c p hwp _).mono ?_
  rintro e wp ⟨gp, cp, rfl, hownp, hbp⟩
  have HNp := Lib.hid (own_newsC hownp)
  have HOp := Lib.hid (own_below HO1.out hbp)
  have HBp := Lib.hid (HB1.out.trans (hbp.mono (Nat.le_trans (Nat.le_succ _) hs1)))
  have HXp := Lib.hid (HX1.out.below HX1.out.lt hbp)
  have hsp := HXp.out.lt
  have hs : w.heap.size + 1 ≤ wp.heap.size := Nat.le_trans hs1 hbp.size
  clear hbp hownp HO1 HB1 HX1 hs1
  have x9 := (HXp.out.cell 9).trans (show _ = some (Value.int .u64 (z : Nat)) from rfl)
  have x8 := (HXp.out.cell 8).trans (show _ = some (Value.int .u64 (p : Nat)) from rfl)
  have x12 := (HXp.out.cell 12).trans (show _ = some (Value.int .u64 (o : Nat)) from rfl)
  have x11 := (HXp.out.cell 11).trans (show _ = some (Value.int .u32 (k : Nat)) from rfl)
  go_wp2_with (at_builtin; refine wpList_append_own _ rfl _ _ 31 rfl (w.heap.size + 1) 5 i0 (.int .u8 0) 1 1 Tryd.underlying31 hi hz0 hz1 hz2 rfl (by decide) _ 8 (cs (nsB [(z, 8)])) rfl HOp.out ⟨gp, 0, none⟩ 8 cp (cs (putL p 8)) rfl (by rw [cs_length, putL_length]) HNp.out (cs_one _) (by unfold maxLen; omega) (by omega) hs ?_; intro v2 w2 hown2 hgrow2 hnil2; rw [nsB_snoc] at hown2; obtain ⟨g2, c2, rfl, hge2, hgl2, _, _⟩ := own_madeC hown2 (by omega); have hX2 := HXp.out.kept hgrow2 ⟨hsp, own_someC (by omega)⟩; clear x9 x8 x12 x11; have x9 := (hX2.cell 9).trans (show _ = some (Value.int .u64 (z : Nat)) from rfl); have x8 := (hX2.cell 8).trans (show _ = some (Value.int .u64 (p : Nat)) from rfl); have x12 := (hX2.cell 12).trans (show _ = some (Value.int .u64 (o : Nat)) from rfl); have x11 := (hX2.cell 11).trans (show _ = some (Value.int .u32 (k : Nat)) from rfl))
  have HB2 : Hid (Below w.heap.size w w2) := HBp.out.grown hgrow2 (by omega) (fun q hq => by
    have e2 : some g1 = some q := hq
    injection e2 with e2
    omega)
  have HO2 := Lib.hid hown2
  have HX2 := Lib.hid hX2
  have hs2 : w.heap.size + 1 ≤ w2.heap.size := by omega
  clear hgrow2 hnil2 hown2 hX2 x9 x8 x12 x11 HBp HOp HXp HNp hsp hs
  have ha1 := (Below.refl w2.heap.size w2).alloc (Nat.le_refl _) (.cells #[.int .u8 1, .int .u8 0, .int .u8 16, .int .u8 0] 5)
  have HR1 := Lib.hid (own_in (l := [ofN 1, ofN 0, ofN 16, ofN 0]) (World.ownsRow_lit (base := w2.heap.size) (e := 5) (size := 1) w2 #[.int .u8 1, .int .u8 0, .int .u8 16, .int .u8 0] 4 (Nat.le_refl _) (by unfold maxLen; omega) rfl))
  have HR2 := Lib.hid (own_in (own_below HO2.out ha1))
  have HBa := Lib.hid (HB2.out.trans (ha1.mono (by omega)))
  have hsa : w.heap.size ≤ (w2.alloc (.cells #[.int .u8 1, .int .u8 0, .int .u8 16, .int .u8 0] 5)).heap.size := HBa.out.size
  clear ha1
  refine (Join2C_c HR1.out HR2.out (by omega) (by omega) _ _ (by simp)).mono ?_
  rintro e wj ⟨E, N, cj, rfl, hownj, hN, hbj⟩
  obtain rfl : N = 20 := hN
  have HOj := Lib.hid hownj
  have HBj := Lib.hid (HBa.out.trans (hbj.mono hsa))
  clear hbj hownj
  go_wp2
  go_ret
  exact ⟨_, _, rfl, own_base2 HOj.out hsa, HBj.out⟩
set_option maxHeartbeats 2000000 in
theorem extra_4 {m y mo d hh mi s : Int} {sum p z k o : Nat} {nm : List UInt8} (hwz : z < two64) (hwp : p < two64) (hwo : o < two64) (hwk : k < 4294967296) (iz : decide ((4294967295 : Int) ≤ (z : Int)) = false) (ip : decide ((4294967295 : Int) ≤ (p : Int)) = false) (io : decide ((4294967295 : Int) ≤ (o : Int)) = true) (ik : decide ((65535 : Int) ≤ (k : Int)) = false) (w : World) :
    Calls Tryd.prog 28 #[.agg #[.int .i64 m, .int .i64 y, .int .i64 mo, .int .i64 d, .int .i64 hh, .int .i64 mi, .int .i64 s, .int .u32 sum, .int .u64 p, .int .u64 z, .string (S nm), .int .u32 k, .int .u64 o]] w fun e w' => ∃ A c', e = .returned (.slice A 12 c') ∧ w'.ownsRow w.heap.size 5 1 (.slice A 12 c') 12 (cs ([ofN 1, ofN 0, ofN 8, ofN 0] ++ nsB [(o, 8)])) ∧ Below w.heap.size w w' := by
  obtain ⟨i0, hi, hz0, hz1, hz2⟩ := info_parts info_u8
  have hk64 : k < two64 := by unfold two64; omega
  have hkw : IntKind.u64.wrap (k : Int) = (k : Int) := by rw [IntKind.wrap_u64]; omega
  have hb1 := (Below.refl w.heap.size w).alloc (Nat.le_refl _) (.cells #[.int .i64 m, .int .i64 y, .int .i64 mo, .int .i64 d, .int .i64 hh, .int .i64 mi, .int .i64 s, .int .u32 sum, .int .u64 p, .int .u64 z, .string (S nm), .int .u32 k, .int .u64 o] 39)
  have HB0 := Lib.hid (hb1.alloc (by simp) (.cells #[] 5))
  have HX0 : Hid (Blk ((w.alloc (.cells #[.int .i64 m, .int .i64 y, .int .i64 mo, .int .i64 d, .int .i64 hh, .int .i64 mi, .int .i64 s, .int .u32 sum, .int .u64 p, .int .u64 z, .string (S nm), .int .u32 k, .int .u64 o] 39)).alloc (.cells #[] 5)) w.heap.size 39 #[.int .i64 m, .int .i64 y, .int .i64 mo, .int .i64 d, .int .i64 hh, .int .i64 mi, .int .i64 s, .int .u32 sum, .int .u64 p, .int .u64 z, .string (S nm), .int .u32 k, .int .u64 o]) := (Blk.new w 39 #[.int .i64 m, .int .i64 y, .int .i64 mo, .int .i64 d, .int .i64 hh, .int .i64 mi, .int .i64 s, .int .u32 sum, .int .u64 p, .int .u64 z, .string (S nm), .int .u32 k, .int .u64 o]).below (Blk.new w 39 #[.int .i64 m, .int .i64 y, .int .i64 mo, .int .i64 d, .int .i64 hh, .int .i64 mi, .int .i64 s, .int .u32 sum, .int .u64 p, .int .u64 z, .string (S nm), .int .u32 k, .int .u64 o]).lt ((Below.refl _ _).alloc (Nat.le_refl _) _)
  have HO0 : Hid (((w.alloc (.cells #[.int .i64 m, .int .i64 y, .int .i64 mo, .int .i64 d, .int .i64 hh, .int .i64 mi, .int .i64 s, .int .u32 sum, .int .u64 p, .int .u64 z, .string (S nm), .int .u32 k, .int .u64 o] 39)).alloc (.cells #[] 5)).ownsRow (w.heap.size + 1) 5 1 (.slice (some ⟨w.heap.size + 1, 0, none⟩) 0 0) 0 (cs (nsB []))) := by
    have h := World.ownsRow_made (base := w.heap.size + 1) (e := 5) (size := 1) (w.alloc (.cells #[.int .i64 m, .int .i64 y, .int .i64 mo, .int .i64 d, .int .i64 hh, .int .i64 mi, .int .i64 s, .int .u32 sum, .int .u64 p, .int .u64 z, .string (S nm), .int .u32 k, .int .u64 o] 39)) #[] 0 (by simp) (Nat.zero_le _) rfl
    have e : (w.alloc (.cells #[.int .i64 m, .int .i64 y, .int .i64 mo, .int .i64 d, .int .i64 hh, .int .i64 mi, .int .i64 s, .int .u32 sum, .int .u64 p, .int .u64 z, .string (S nm), .int .u32 k, .int .u64 o] 39)).heap.size = w.heap.size + 1 := by simp
    rw [e] at h
    exact h
  have hge0 : w.heap.size + 1 ≤ w.heap.size + 1 := Nat.le_refl _
  have hs0 : w.heap.size + 1 ≤ ((w.alloc (.cells #[.int .i64 m, .int .i64 y, .int .i64 mo, .int .i64 d, .int .i64 hh, .int .i64 mi, .int .i64 s, .int .u32 sum, .int .u64 p, .int .u64 z, .string (S nm), .int .u32 k, .int .u64 o] 39)).alloc (.cells #[] 5)).heap.size := by simp
  clear hb1
  go_enter Tryd.func28, Tryd.ntmps28
  go_wp2_with fail
  refine (RPut8_c o hwo _).mono ?_
  rintro e wp ⟨gp, cp, rfl, hownp, hbp⟩
  have HNp := Lib.hid (own_newsC hownp)
  have HOp := Lib.hid (own_below HO0.out hbp)
  have HBp := Lib.hid (HB0.out.trans (hbp.mono (Nat.le_trans (Nat.le_succ _) hs0)))
  have HXp := Lib.hid (HX0.out.below HX0.out.lt hbp)
  have hsp := HXp.out.lt
  have hs : w.heap.size + 1 ≤ wp.heap.size := Nat.le_trans hs0 hbp.size
  clear hbp hownp HO0 HB0 HX0 hs0
  have x9 := (HXp.out.cell 9).trans (show _ = some (Value.int .u64 (z : Nat)) from rfl)
  have x8 := (HXp.out.cell 8).trans (show _ = some (Value.int .u64 (p : Nat)) from rfl)
  have x12 := (HXp.out.cell 12).trans (show _ = some (Value.int .u64 (o : Nat)) from rfl)
  have x11 := (HXp.out.cell 11).trans (show _ = some (Value.int .u32 (k : Nat)) from rfl)
  go_wp2_with (at_builtin; refine wpList_append_own _ rfl _ _ 31 rfl (w.heap.size + 1) 5 i0 (.int .u8 0) 1 1 Tryd.underlying31 hi hz0 hz1 hz2 rfl (by decide) _ 0 (cs (nsB [])) rfl HOp.out ⟨gp, 0, none⟩ 8 cp (cs (putL o 8)) rfl (by rw [cs_length, putL_length]) HNp.out (cs_one _) (by unfold maxLen; omega) (by omega) hs ?_; intro v1 w1 hown1 hgrow1 hnil1; rw [nsB_snoc] at hown1; obtain ⟨g1, c1, rfl, hge1, hgl1, _, _⟩ := own_madeC hown1 (by omega); have hX1 := HXp.out.kept hgrow1 ⟨hsp, own_someC (by omega)⟩; clear x9 x8 x12 x11; have x9 := (hX1.cell 9).trans (show _ = some (Value.int .u64 (z : Nat)) from rfl); have x8 := (hX1.cell 8).trans (show _ = some (Value.int .u64 (p : Nat)) from rfl); have x12 := (hX1.cell 12).trans (show _ = some (Value.int .u64 (o : Nat)) from rfl); have x11 := (hX1.cell 11).trans (show _ = some (Value.int .u32 (k : Nat)) from rfl))
  have HB1 : Hid (Below w.heap.size w w1) := HBp.out.grown hgrow1 (by omega) (fun q hq => by
    have e2 : some (w.heap.size + 1) = some q := hq
    injection e2 with e2
    omega)
  have HO1 := Lib.hid hown1
  have HX1 := Lib.hid hX1
  have hs1 : w.heap.size + 1 ≤ w1.heap.size := by omega
  clear hgrow1 hnil1 hown1 hX1 x9 x8 x12 x11 HBp HOp HXp HNp hsp hs
  have ha1 := (Below.refl w1.heap.size w1).alloc (Nat.le_refl _) (.cells #[.int .u8 1, .int .u8 0, .int .u8 8, .int .u8 0] 5)
  have HR1 := Lib.hid (own_in (l := [ofN 1, ofN 0, ofN 8, ofN 0]) (World.ownsRow_lit (base := w1.heap.size) (e := 5) (size := 1) w1 #[.int .u8 1, .int .u8 0, .int .u8 8, .int .u8 0] 4 (Nat.le_refl _) (by unfold maxLen; omega) rfl))
  have HR2 := Lib.hid (own_in (own_below HO1.out ha1))
  have HBa := Lib.hid (HB1.out.trans (ha1.mono (by omega)))
  have hsa : w.heap.size ≤ (w1.alloc (.cells #[.int .u8 1, .int .u8 0, .int .u8 8, .int .u8 0] 5)).heap.size := HBa.out.size
  clear ha1
  refine (Join2C_c HR1.out HR2.out (by omega) (by omega) _ _ (by simp)).mono ?_
  rintro e wj ⟨E, N, cj, rfl, hownj, hN, hbj⟩
  obtain rfl : N = 12 := hN
  have HOj := Lib.hid hownj
  have HBj := Lib.hid (HBa.out.trans (hbj.mono hsa))
  clear hbj hownj
  go_wp2
  go_ret
  exact ⟨_, _, rfl, own_base2 HOj.out hsa, HBj.out⟩
set_option maxHeartbeats 2000000 in
theorem extra_5 {m y mo d hh mi s : Int} {sum p z k o : Nat} {nm : List UInt8} (hwz : z < two64) (hwp : p < two64) (hwo : o < two64) (hwk : k < 4294967296) (iz : decide ((4294967295 : Int) ≤ (z : Int)) = true) (ip : decide ((4294967295 : Int) ≤ (p : Int)) = false) (io : decide ((4294967295 : Int) ≤ (o : Int)) = true) (ik : decide ((65535 : Int) ≤ (k : Int)) = false) (w : World) :
    Calls Tryd.prog 28 #[.agg #[.int .i64 m, .int .i64 y, .int .i64 mo, .int .i64 d, .int .i64 hh, .int .i64 mi, .int .i64 s, .int .u32 sum, .int .u64 p, .int .u64 z, .string (S nm), .int .u32 k, .int .u64 o]] w fun e w' => ∃ A c', e = .returned (.slice A 20 c') ∧ w'.ownsRow w.heap.size 5 1 (.slice A 20 c') 20 (cs ([ofN 1, ofN 0, ofN 16, ofN 0] ++ nsB [(z, 8), (o, 8)])) ∧ Below w.heap.size w w' := by
  obtain ⟨i0, hi, hz0, hz1, hz2⟩ := info_parts info_u8
  have hk64 : k < two64 := by unfold two64; omega
  have hkw : IntKind.u64.wrap (k : Int) = (k : Int) := by rw [IntKind.wrap_u64]; omega
  have hb1 := (Below.refl w.heap.size w).alloc (Nat.le_refl _) (.cells #[.int .i64 m, .int .i64 y, .int .i64 mo, .int .i64 d, .int .i64 hh, .int .i64 mi, .int .i64 s, .int .u32 sum, .int .u64 p, .int .u64 z, .string (S nm), .int .u32 k, .int .u64 o] 39)
  have HB0 := Lib.hid (hb1.alloc (by simp) (.cells #[] 5))
  have HX0 : Hid (Blk ((w.alloc (.cells #[.int .i64 m, .int .i64 y, .int .i64 mo, .int .i64 d, .int .i64 hh, .int .i64 mi, .int .i64 s, .int .u32 sum, .int .u64 p, .int .u64 z, .string (S nm), .int .u32 k, .int .u64 o] 39)).alloc (.cells #[] 5)) w.heap.size 39 #[.int .i64 m, .int .i64 y, .int .i64 mo, .int .i64 d, .int .i64 hh, .int .i64 mi, .int .i64 s, .int .u32 sum, .int .u64 p, .int .u64 z, .string (S nm), .int .u32 k, .int .u64 o]) := (Blk.new w 39 #[.int .i64 m, .int .i64 y, .int .i64 mo, .int .i64 d, .int .i64 hh, .int .i64 mi, .int .i64 s, .int .u32 sum, .int .u64 p, .int .u64 z, .string (S nm), .int .u32 k, .int .u64 o]).below (Blk.new w 39 #[.int .i64 m, .int .i64 y, .int .i64 mo, .int .i64 d, .int .i64 hh, .int .i64 mi, .int .i64 s, .int .u32 sum, .int .u64 p, .int .u64 z, .string (S nm), .int .u32 k, .int .u64 o]).lt ((Below.refl _ _).alloc (Nat.le_refl _) _)
  have HO0 : Hid (((w.alloc (.cells #[.int .i64 m, .int .i64 y, .int .i64 mo, .int .i64 d, .int .i64 hh, .int .i64 mi, .int .i64 s, .int .u32 sum, .int .u64 p, .int .u64 z, .string (S nm), .int .u32 k, .int .u64 o] 39)).alloc (.cells #[] 5)).ownsRow (w.heap.size + 1) 5 1 (.slice (some ⟨w.heap.size + 1, 0, none⟩) 0 0) 0 (cs (nsB []))) := by
    have h := World.ownsRow_made (base := w.heap.size + 1) (e := 5) (size := 1) (w.alloc (.cells #[.int .i64 m, .int .i64 y, .int .i64 mo, .int .i64 d, .int .i64 hh, .int .i64 mi, .int .i64 s, .int .u32 sum, .int .u64 p, .int .u64 z, .string (S nm), .int .u32 k, .int .u64 o] 39)) #[] 0 (by simp) (Nat.zero_le _) rfl
    have e : (w.alloc (.cells #[.int .i64 m, .int .i64 y, .int .i64 mo, .int .i64 d, .int .i64 hh, .int .i64 mi, .int .i64 s, .int .u32 sum, .int .u64 p, .int .u64 z, .string (S nm), .int .u32 k, .int .u64 o] 39)).heap.size = w.heap.size + 1 := by simp
    rw [e] at h
    exact h
  have hge0 : w.heap.size + 1 ≤ w.heap.size + 1 := Nat.le_refl _
  have hs0 : w.heap.size + 1 ≤ ((w.alloc (.cells #[.int .i64 m, .int .i64 y, .int .i64 mo, .int .i64 d, .int .i64 hh, .int .i64 mi, .int .i64 s, .int .u32 sum, .int .u64 p, .int .u64 z, .string (S nm), .int .u32 k, .int .u64 o] 39)).alloc (.cells #[] 5)).heap.size := by simp
  clear hb1
  go_enter Tryd.func28, Tryd.ntmps28
  go_wp2_with fail
  refine (RPut8_c z hwz _).mono ?_
  rintro e wp ⟨gp, cp, rfl, hownp, hbp⟩
  have HNp := Lib.hid (own_newsC hownp)
  have HOp := Lib.hid (own_below HO0.out hbp)
  have HBp := Lib.hid (HB0.out.trans (hbp.mono (Nat.le_trans (Nat.le_succ _) hs0)))
  have HXp := Lib.hid (HX0.out.below HX0.out.lt hbp)
  have hsp := HXp.out.lt
  have hs : w.heap.size + 1 ≤ wp.heap.size := Nat.le_trans hs0 hbp.size
  clear hbp hownp HO0 HB0 HX0 hs0
  have x9 := (HXp.out.cell 9).trans (show _ = some (Value.int .u64 (z : Nat)) from rfl)
  have x8 := (HXp.out.cell 8).trans (show _ = some (Value.int .u64 (p : Nat)) from rfl)
  have x12 := (HXp.out.cell 12).trans (show _ = some (Value.int .u64 (o : Nat)) from rfl)
  have x11 := (HXp.out.cell 11).trans (show _ = some (Value.int .u32 (k : Nat)) from rfl)
  go_wp2_with (at_builtin; refine wpList_append_own _ rfl _ _ 31 rfl (w.heap.size + 1) 5 i0 (.int .u8 0) 1 1 Tryd.underlying31 hi hz0 hz1 hz2 rfl (by decide) _ 0 (cs (nsB [])) rfl HOp.out ⟨gp, 0, none⟩ 8 cp (cs (putL z 8)) rfl (by rw [cs_length, putL_length]) HNp.out (cs_one _) (by unfold maxLen; omega) (by omega) hs ?_; intro v1 w1 hown1 hgrow1 hnil1; rw [nsB_snoc] at hown1; obtain ⟨g1, c1, rfl, hge1, hgl1, _, _⟩ := own_madeC hown1 (by omega); have hX1 := HXp.out.kept hgrow1 ⟨hsp, own_someC (by omega)⟩; clear x9 x8 x12 x11; have x9 := (hX1.cell 9).trans (show _ = some (Value.int .u64 (z : Nat)) from rfl); have x8 := (hX1.cell 8).trans (show _ = some (Value.int .u64 (p : Nat)) from rfl); have x12 := (hX1.cell 12).trans (show _ = some (Value.int .u64 (o : Nat)) from rfl); have x11 := (hX1.cell 11).trans (show _ = some (Value.int .u32 (k : Nat)) from rfl))
  have HB1 : Hid (Below w.heap.size w w1) := HBp.out.grown hgrow1 (by omega) (fun q hq => by
    have e2 : some (w.heap.size + 1) = some q := hq
    injection e2 with e2
    omega)
  have HO1 := Lib.hid hown1
  have HX1 := Lib.hid hX1
  have hs1 : w.heap.size + 1 ≤ w1.heap.size := by omega
  clear hgrow1 hnil1 hown1 hX1 x9 x8 x12 x11 HBp HOp HXp HNp hsp hs
  refine (RPut8_c o hwo _).mono ?_
  rintro e wp ⟨gp, cp, rfl, hownp, hbp⟩
  have HNp := Lib.hid (own_newsC hownp)
  have HOp := Lib.hid (own_below HO1.out hbp)
  have HBp := Lib.hid (HB1.out.trans (hbp.mono (Nat.le_trans (Nat.le_succ _) hs1)))
  have HXp := Lib.hid (HX1.out.below HX1.out.lt hbp)
  have hsp := HXp.out.lt
  have hs : w.heap.size + 1 ≤ wp.heap.size := Nat.le_trans hs1 hbp.size
  clear hbp hownp HO1 HB1 HX1 hs1
  have x9 := (HXp.out.cell 9).trans (show _ = some (Value.int .u64 (z : Nat)) from rfl)
  have x8 := (HXp.out.cell 8).trans (show _ = some (Value.int .u64 (p : Nat)) from rfl)
  have x12 := (HXp.out.cell 12).trans (show _ = some (Value.int .u64 (o : Nat)) from rfl)
  have x11 := (HXp.out.cell 11).trans (show _ = some (Value.int .u32 (k : Nat)) from rfl)
  go_wp2_with (at_builtin; refine wpList_append_own _ rfl _ _ 31 rfl (w.heap.size + 1) 5 i0 (.int .u8 0) 1 1 Tryd.underlying31 hi hz0 hz1 hz2 rfl (by decide) _ 8 (cs (nsB [(z, 8)])) rfl HOp.out ⟨gp, 0, none⟩ 8 cp (cs (putL o 8)) rfl (by rw [cs_length, putL_length]) HNp.out (cs_one _) (by unfold maxLen; omega) (by omega) hs ?_; intro v2 w2 hown2 hgrow2 hnil2; rw [nsB_snoc] at hown2; obtain ⟨g2, c2, rfl, hge2, hgl2, _, _⟩ := own_madeC hown2 (by omega); have hX2 := HXp.out.kept hgrow2 ⟨hsp, own_someC (by omega)⟩; clear x9 x8 x12 x11; have x9 := (hX2.cell 9).trans (show _ = some (Value.int .u64 (z : Nat)) from rfl); have x8 := (hX2.cell 8).trans (show _ = some (Value.int .u64 (p : Nat)) from rfl); have x12 := (hX2.cell 12).trans (show _ = some (Value.int .u64 (o : Nat)) from rfl); have x11 := (hX2.cell 11).trans (show _ = some (Value.int .u32 (k : Nat)) from rfl))
  have HB2 : Hid (Below w.heap.size w w2) := HBp.out.grown hgrow2 (by omega) (fun q hq => by
    have e2 : some g1 = some q := hq
    injection e2 with e2
    omega)
  have HO2 := Lib.hid hown2
  have HX2 := Lib.hid hX2
  have hs2 : w.heap.size + 1 ≤ w2.heap.size := by omega
  clear hgrow2 hnil2 hown2 hX2 x9 x8 x12 x11 HBp HOp HXp HNp hsp hs
  have ha1 := (Below.refl w2.heap.size w2).alloc (Nat.le_refl _) (.cells #[.int .u8 1, .int .u8 0, .int .u8 16, .int .u8 0] 5)
  have HR1 := Lib.hid (own_in (l := [ofN 1, ofN 0, ofN 16, ofN 0]) (World.ownsRow_lit (base := w2.heap.size) (e := 5) (size := 1) w2 #[.int .u8 1, .int .u8 0, .int .u8 16, .int .u8 0] 4 (Nat.le_refl _) (by unfold maxLen; omega) rfl))
  have HR2 := Lib.hid (own_in (own_below HO2.out ha1))
  have HBa := Lib.hid (HB2.out.trans (ha1.mono (by omega)))
  have hsa : w.heap.size ≤ (w2.alloc (.cells #[.int .u8 1, .int .u8 0, .int .u8 16, .int .u8 0] 5)).heap.size := HBa.out.size
  clear ha1
  refine (Join2C_c HR1.out HR2.out (by omega) (by omega) _ _ (by simp)).mono ?_
  rintro e wj ⟨E, N, cj, rfl, hownj, hN, hbj⟩
  obtain rfl : N = 20 := hN
  have HOj := Lib.hid hownj
  have HBj := Lib.hid (HBa.out.trans (hbj.mono hsa))
  clear hbj hownj
  go_wp2
  go_ret
  exact ⟨_, _, rfl, own_base2 HOj.out hsa, HBj.out⟩
set_option maxHeartbeats 2000000 in
theorem extra_6 {m y mo d hh mi s : Int} {sum p z k o : Nat} {nm : List UInt8} (hwz : z < two64) (hwp : p < two64) (hwo : o < two64) (hwk : k < 4294967296) (iz : decide ((4294967295 : Int) ≤ (z : Int)) = false) (ip : decide ((4294967295 : Int) ≤ (p : Int)) = true) (io : decide ((4294967295 : Int) ≤ (o : Int)) = true) (ik : decide ((65535 : Int) ≤ (k : Int)) = false) (w : World) :
    Calls Tryd.prog 28 #[.agg #[.int .i64 m, .int .i64 y, .int .i64 mo, .int .i64 d, .int .i64 hh, .int .i64 mi, .int .i64 s, .int .u32 sum, .int .u64 p, .int .u64 z, .string (S nm), .int .u32 k, .int .u64 o]] w fun e w' => ∃ A c', e = .returned (.slice A 20 c') ∧ w'.ownsRow w.heap.size 5 1 (.slice A 20 c') 20 (cs ([ofN 1, ofN 0, ofN 16, ofN 0] ++ nsB [(p, 8), (o, 8)])) ∧ Below w.heap.size w w' := by
  obtain ⟨i0, hi, hz0, hz1, hz2⟩ := info_parts info_u8
  have hk64 : k < two64 := by unfold two64; omega
  have hkw : IntKind.u64.wrap (k : Int) = (k : Int) := by rw [IntKind.wrap_u64]; omega
  have hb1 := (Below.refl w.heap.size w).alloc (Nat.le_refl _) (.cells #[.int .i64 m, .int .i64 y, .int .i64 mo, .int .i64 d, .int .i64 hh, .int .i64 mi, .int .i64 s, .int .u32 sum, .int .u64 p, .int .u64 z, .string (S nm), .int .u32 k, .int .u64 o] 39)
  have HB0 := Lib.hid (hb1.alloc (by simp) (.cells #[] 5))
  have HX0 : Hid (Blk ((w.alloc (.cells #[.int .i64 m, .int .i64 y, .int .i64 mo, .int .i64 d, .int .i64 hh, .int .i64 mi, .int .i64 s, .int .u32 sum, .int .u64 p, .int .u64 z, .string (S nm), .int .u32 k, .int .u64 o] 39)).alloc (.cells #[] 5)) w.heap.size 39 #[.int .i64 m, .int .i64 y, .int .i64 mo, .int .i64 d, .int .i64 hh, .int .i64 mi, .int .i64 s, .int .u32 sum, .int .u64 p, .int .u64 z, .string (S nm), .int .u32 k, .int .u64 o]) := (Blk.new w 39 #[.int .i64 m, .int .i64 y, .int .i64 mo, .int .i64 d, .int .i64 hh, .int .i64 mi, .int .i64 s, .int .u32 sum, .int .u64 p, .int .u64 z, .string (S nm), .int .u32 k, .int .u64 o]).below (Blk.new w 39 #[.int .i64 m, .int .i64 y, .int .i64 mo, .int .i64 d, .int .i64 hh, .int .i64 mi, .int .i64 s, .int .u32 sum, .int .u64 p, .int .u64 z, .string (S nm), .int .u32 k, .int .u64 o]).lt ((Below.refl _ _).alloc (Nat.le_refl _) _)
  have HO0 : Hid (((w.alloc (.cells #[.int .i64 m, .int .i64 y, .int .i64 mo, .int .i64 d, .int .i64 hh, .int .i64 mi, .int .i64 s, .int .u32 sum, .int .u64 p, .int .u64 z, .string (S nm), .int .u32 k, .int .u64 o] 39)).alloc (.cells #[] 5)).ownsRow (w.heap.size + 1) 5 1 (.slice (some ⟨w.heap.size + 1, 0, none⟩) 0 0) 0 (cs (nsB []))) := by
    have h := World.ownsRow_made (base := w.heap.size + 1) (e := 5) (size := 1) (w.alloc (.cells #[.int .i64 m, .int .i64 y, .int .i64 mo, .int .i64 d, .int .i64 hh, .int .i64 mi, .int .i64 s, .int .u32 sum, .int .u64 p, .int .u64 z, .string (S nm), .int .u32 k, .int .u64 o] 39)) #[] 0 (by simp) (Nat.zero_le _) rfl
    have e : (w.alloc (.cells #[.int .i64 m, .int .i64 y, .int .i64 mo, .int .i64 d, .int .i64 hh, .int .i64 mi, .int .i64 s, .int .u32 sum, .int .u64 p, .int .u64 z, .string (S nm), .int .u32 k, .int .u64 o] 39)).heap.size = w.heap.size + 1 := by simp
    rw [e] at h
    exact h
  have hge0 : w.heap.size + 1 ≤ w.heap.size + 1 := Nat.le_refl _
  have hs0 : w.heap.size + 1 ≤ ((w.alloc (.cells #[.int .i64 m, .int .i64 y, .int .i64 mo, .int .i64 d, .int .i64 hh, .int .i64 mi, .int .i64 s, .int .u32 sum, .int .u64 p, .int .u64 z, .string (S nm), .int .u32 k, .int .u64 o] 39)).alloc (.cells #[] 5)).heap.size := by simp
  clear hb1
  go_enter Tryd.func28, Tryd.ntmps28
  go_wp2_with fail
  refine (RPut8_c p hwp _).mono ?_
  rintro e wp ⟨gp, cp, rfl, hownp, hbp⟩
  have HNp := Lib.hid (own_newsC hownp)
  have HOp := Lib.hid (own_below HO0.out hbp)
  have HBp := Lib.hid (HB0.out.trans (hbp.mono (Nat.le_trans (Nat.le_succ _) hs0)))
  have HXp := Lib.hid (HX0.out.below HX0.out.lt hbp)
  have hsp := HXp.out.lt
  have hs : w.heap.size + 1 ≤ wp.heap.size := Nat.le_trans hs0 hbp.size
  clear hbp hownp HO0 HB0 HX0 hs0
  have x9 := (HXp.out.cell 9).trans (show _ = some (Value.int .u64 (z : Nat)) from rfl)
  have x8 := (HXp.out.cell 8).trans (show _ = some (Value.int .u64 (p : Nat)) from rfl)
  have x12 := (HXp.out.cell 12).trans (show _ = some (Value.int .u64 (o : Nat)) from rfl)
  have x11 := (HXp.out.cell 11).trans (show _ = some (Value.int .u32 (k : Nat)) from rfl)
  go_wp2_with (at_builtin; refine wpList_append_own _ rfl _ _ 31 rfl (w.heap.size + 1) 5 i0 (.int .u8 0) 1 1 Tryd.underlying31 hi hz0 hz1 hz2 rfl (by decide) _ 0 (cs (nsB [])) rfl HOp.out ⟨gp, 0, none⟩ 8 cp (cs (putL p 8)) rfl (by rw [cs_length, putL_length]) HNp.out (cs_one _) (by unfold maxLen; omega) (by omega) hs ?_; intro v1 w1 hown1 hgrow1 hnil1; rw [nsB_snoc] at hown1; obtain ⟨g1, c1, rfl, hge1, hgl1, _, _⟩ := own_madeC hown1 (by omega); have hX1 := HXp.out.kept hgrow1 ⟨hsp, own_someC (by omega)⟩; clear x9 x8 x12 x11; have x9 := (hX1.cell 9).trans (show _ = some (Value.int .u64 (z : Nat)) from rfl); have x8 := (hX1.cell 8).trans (show _ = some (Value.int .u64 (p : Nat)) from rfl); have x12 := (hX1.cell 12).trans (show _ = some (Value.int .u64 (o : Nat)) from rfl); have x11 := (hX1.cell 11).trans (show _ = some (Value.int .u32 (k : Nat)) from rfl))
  have HB1 : Hid (Below w.heap.size w w1) := HBp.out.grown hgrow1 (by omega) (fun q hq => by
    have e2 : some (w.heap.size + 1) = some q := hq
    injection e2 with e2
    omega)
  have HO1 := Lib.hid hown1
  have HX1 := Lib.hid hX1
  have hs1 : w.heap.size + 1 ≤ w1.heap.size := by omega
  clear hgrow1 hnil1 hown1 hX1 x9 x8 x12 x11 HBp HOp HXp HNp hsp hs
  refine (RPut8_c o hwo _).mono ?_
  rintro e wp ⟨gp, cp, rfl, hownp, hbp⟩
  have HNp := Lib.hid (own_newsC hownp)
  have HOp := Lib.hid (own_below HO1.out hbp)
  have HBp := Lib.hid (HB1.out.trans (hbp.mono (Nat.le_trans (Nat.le_succ _) hs1)))
  have HXp := Lib.hid (HX1.out.below HX1.out.lt hbp)
  have hsp := HXp.out.lt
  have hs : w.heap.size + 1 ≤ wp.heap.size := Nat.le_trans hs1 hbp.size
  clear hbp hownp HO1 HB1 HX1 hs1
  have x9 := (HXp.out.cell 9).trans (show _ = some (Value.int .u64 (z : Nat)) from rfl)
  have x8 := (HXp.out.cell 8).trans (show _ = some (Value.int .u64 (p : Nat)) from rfl)
  have x12 := (HXp.out.cell 12).trans (show _ = some (Value.int .u64 (o : Nat)) from rfl)
  have x11 := (HXp.out.cell 11).trans (show _ = some (Value.int .u32 (k : Nat)) from rfl)
  go_wp2_with (at_builtin; refine wpList_append_own _ rfl _ _ 31 rfl (w.heap.size + 1) 5 i0 (.int .u8 0) 1 1 Tryd.underlying31 hi hz0 hz1 hz2 rfl (by decide) _ 8 (cs (nsB [(p, 8)])) rfl HOp.out ⟨gp, 0, none⟩ 8 cp (cs (putL o 8)) rfl (by rw [cs_length, putL_length]) HNp.out (cs_one _) (by unfold maxLen; omega) (by omega) hs ?_; intro v2 w2 hown2 hgrow2 hnil2; rw [nsB_snoc] at hown2; obtain ⟨g2, c2, rfl, hge2, hgl2, _, _⟩ := own_madeC hown2 (by omega); have hX2 := HXp.out.kept hgrow2 ⟨hsp, own_someC (by omega)⟩; clear x9 x8 x12 x11; have x9 := (hX2.cell 9).trans (show _ = some (Value.int .u64 (z : Nat)) from rfl); have x8 := (hX2.cell 8).trans (show _ = some (Value.int .u64 (p : Nat)) from rfl); have x12 := (hX2.cell 12).trans (show _ = some (Value.int .u64 (o : Nat)) from rfl); have x11 := (hX2.cell 11).trans (show _ = some (Value.int .u32 (k : Nat)) from rfl))
  have HB2 : Hid (Below w.heap.size w w2) := HBp.out.grown hgrow2 (by omega) (fun q hq => by
    have e2 : some g1 = some q := hq
    injection e2 with e2
    omega)
  have HO2 := Lib.hid hown2
  have HX2 := Lib.hid hX2
  have hs2 : w.heap.size + 1 ≤ w2.heap.size := by omega
  clear hgrow2 hnil2 hown2 hX2 x9 x8 x12 x11 HBp HOp HXp HNp hsp hs
  have ha1 := (Below.refl w2.heap.size w2).alloc (Nat.le_refl _) (.cells #[.int .u8 1, .int .u8 0, .int .u8 16, .int .u8 0] 5)
  have HR1 := Lib.hid (own_in (l := [ofN 1, ofN 0, ofN 16, ofN 0]) (World.ownsRow_lit (base := w2.heap.size) (e := 5) (size := 1) w2 #[.int .u8 1, .int .u8 0, .int .u8 16, .int .u8 0] 4 (Nat.le_refl _) (by unfold maxLen; omega) rfl))
  have HR2 := Lib.hid (own_in (own_below HO2.out ha1))
  have HBa := Lib.hid (HB2.out.trans (ha1.mono (by omega)))
  have hsa : w.heap.size ≤ (w2.alloc (.cells #[.int .u8 1, .int .u8 0, .int .u8 16, .int .u8 0] 5)).heap.size := HBa.out.size
  clear ha1
  refine (Join2C_c HR1.out HR2.out (by omega) (by omega) _ _ (by simp)).mono ?_
  rintro e wj ⟨E, N, cj, rfl, hownj, hN, hbj⟩
  obtain rfl : N = 20 := hN
  have HOj := Lib.hid hownj
  have HBj := Lib.hid (HBa.out.trans (hbj.mono hsa))
  clear hbj hownj
  go_wp2
  go_ret
  exact ⟨_, _, rfl, own_base2 HOj.out hsa, HBj.out⟩
set_option maxHeartbeats 2000000 in
theorem extra_7 {m y mo d hh mi s : Int} {sum p z k o : Nat} {nm : List UInt8} (hwz : z < two64) (hwp : p < two64) (hwo : o < two64) (hwk : k < 4294967296) (iz : decide ((4294967295 : Int) ≤ (z : Int)) = true) (ip : decide ((4294967295 : Int) ≤ (p : Int)) = true) (io : decide ((4294967295 : Int) ≤ (o : Int)) = true) (ik : decide ((65535 : Int) ≤ (k : Int)) = false) (w : World) :
    Calls Tryd.prog 28 #[.agg #[.int .i64 m, .int .i64 y, .int .i64 mo, .int .i64 d, .int .i64 hh, .int .i64 mi, .int .i64 s, .int .u32 sum, .int .u64 p, .int .u64 z, .string (S nm), .int .u32 k, .int .u64 o]] w fun e w' => ∃ A c', e = .returned (.slice A 28 c') ∧ w'.ownsRow w.heap.size 5 1 (.slice A 28 c') 28 (cs ([ofN 1, ofN 0, ofN 24, ofN 0] ++ nsB [(z, 8), (p, 8), (o, 8)])) ∧ Below w.heap.size w w' := by
  obtain ⟨i0, hi, hz0, hz1, hz2⟩ := info_parts info_u8
  have hk64 : k < two64 := by unfold two64; omega
  have hkw : IntKind.u64.wrap (k : Int) = (k : Int) := by rw [IntKind.wrap_u64]; omega
  have hb1 := (Below.refl w.heap.size w).alloc (Nat.le_refl _) (.cells #[.int .i64 m, .int .i64 y, .int .i64 mo, .int .i64 d, .int .i64 hh, .int .i64 mi, .int .i64 s, .int .u32 sum, .int .u64 p, .int .u64 z, .string (S nm), .int .u32 k, .int .u64 o] 39)
  have HB0 := Lib.hid (hb1.alloc (by simp) (.cells #[] 5))
  have HX0 : Hid (Blk ((w.alloc (.cells #[.int .i64 m, .int .i64 y, .int .i64 mo, .int .i64 d, .int .i64 hh, .int .i64 mi, .int .i64 s, .int .u32 sum, .int .u64 p, .int .u64 z, .string (S nm), .int .u32 k, .int .u64 o] 39)).alloc (.cells #[] 5)) w.heap.size 39 #[.int .i64 m, .int .i64 y, .int .i64 mo, .int .i64 d, .int .i64 hh, .int .i64 mi, .int .i64 s, .int .u32 sum, .int .u64 p, .int .u64 z, .string (S nm), .int .u32 k, .int .u64 o]) := (Blk.new w 39 #[.int .i64 m, .int .i64 y, .int .i64 mo, .int .i64 d, .int .i64 hh, .int .i64 mi, .int .i64 s, .int .u32 sum, .int .u64 p, .int .u64 z, .string (S nm), .int .u32 k, .int .u64 o]).below (Blk.new w 39 #[.int .i64 m, .int .i64 y, .int .i64 mo, .int .i64 d, .int .i64 hh, .int .i64 mi, .int .i64 s, .int .u32 sum, .int .u64 p, .int .u64 z, .string (S nm), .int .u32 k, .int .u64 o]).lt ((Below.refl _ _).alloc (Nat.le_refl _) _)
  have HO0 : Hid (((w.alloc (.cells #[.int .i64 m, .int .i64 y, .int .i64 mo, .int .i64 d, .int .i64 hh, .int .i64 mi, .int .i64 s, .int .u32 sum, .int .u64 p, .int .u64 z, .string (S nm), .int .u32 k, .int .u64 o] 39)).alloc (.cells #[] 5)).ownsRow (w.heap.size + 1) 5 1 (.slice (some ⟨w.heap.size + 1, 0, none⟩) 0 0) 0 (cs (nsB []))) := by
    have h := World.ownsRow_made (base := w.heap.size + 1) (e := 5) (size := 1) (w.alloc (.cells #[.int .i64 m, .int .i64 y, .int .i64 mo, .int .i64 d, .int .i64 hh, .int .i64 mi, .int .i64 s, .int .u32 sum, .int .u64 p, .int .u64 z, .string (S nm), .int .u32 k, .int .u64 o] 39)) #[] 0 (by simp) (Nat.zero_le _) rfl
    have e : (w.alloc (.cells #[.int .i64 m, .int .i64 y, .int .i64 mo, .int .i64 d, .int .i64 hh, .int .i64 mi, .int .i64 s, .int .u32 sum, .int .u64 p, .int .u64 z, .string (S nm), .int .u32 k, .int .u64 o] 39)).heap.size = w.heap.size + 1 := by simp
    rw [e] at h
    exact h
  have hge0 : w.heap.size + 1 ≤ w.heap.size + 1 := Nat.le_refl _
  have hs0 : w.heap.size + 1 ≤ ((w.alloc (.cells #[.int .i64 m, .int .i64 y, .int .i64 mo, .int .i64 d, .int .i64 hh, .int .i64 mi, .int .i64 s, .int .u32 sum, .int .u64 p, .int .u64 z, .string (S nm), .int .u32 k, .int .u64 o] 39)).alloc (.cells #[] 5)).heap.size := by simp
  clear hb1
  go_enter Tryd.func28, Tryd.ntmps28
  go_wp2_with fail
  refine (RPut8_c z hwz _).mono ?_
  rintro e wp ⟨gp, cp, rfl, hownp, hbp⟩
  have HNp := Lib.hid (own_newsC hownp)
  have HOp := Lib.hid (own_below HO0.out hbp)
  have HBp := Lib.hid (HB0.out.trans (hbp.mono (Nat.le_trans (Nat.le_succ _) hs0)))
  have HXp := Lib.hid (HX0.out.below HX0.out.lt hbp)
  have hsp := HXp.out.lt
  have hs : w.heap.size + 1 ≤ wp.heap.size := Nat.le_trans hs0 hbp.size
  clear hbp hownp HO0 HB0 HX0 hs0
  have x9 := (HXp.out.cell 9).trans (show _ = some (Value.int .u64 (z : Nat)) from rfl)
  have x8 := (HXp.out.cell 8).trans (show _ = some (Value.int .u64 (p : Nat)) from rfl)
  have x12 := (HXp.out.cell 12).trans (show _ = some (Value.int .u64 (o : Nat)) from rfl)
  have x11 := (HXp.out.cell 11).trans (show _ = some (Value.int .u32 (k : Nat)) from rfl)
  go_wp2_with (at_builtin; refine wpList_append_own _ rfl _ _ 31 rfl (w.heap.size + 1) 5 i0 (.int .u8 0) 1 1 Tryd.underlying31 hi hz0 hz1 hz2 rfl (by decide) _ 0 (cs (nsB [])) rfl HOp.out ⟨gp, 0, none⟩ 8 cp (cs (putL z 8)) rfl (by rw [cs_length, putL_length]) HNp.out (cs_one _) (by unfold maxLen; omega) (by omega) hs ?_; intro v1 w1 hown1 hgrow1 hnil1; rw [nsB_snoc] at hown1; obtain ⟨g1, c1, rfl, hge1, hgl1, _, _⟩ := own_madeC hown1 (by omega); have hX1 := HXp.out.kept hgrow1 ⟨hsp, own_someC (by omega)⟩; clear x9 x8 x12 x11; have x9 := (hX1.cell 9).trans (show _ = some (Value.int .u64 (z : Nat)) from rfl); have x8 := (hX1.cell 8).trans (show _ = some (Value.int .u64 (p : Nat)) from rfl); have x12 := (hX1.cell 12).trans (show _ = some (Value.int .u64 (o : Nat)) from rfl); have x11 := (hX1.cell 11).trans (show _ = some (Value.int .u32 (k : Nat)) from rfl))
  have HB1 : Hid (Below w.heap.size w w1) := HBp.out.grown hgrow1 (by omega) (fun q hq => by
    have e2 : some (w.heap.size + 1) = some q := hq
    injection e2 with e2
    omega)
  have HO1 := Lib.hid hown1
  have HX1 := Lib.hid hX1
  have hs1 : w.heap.size + 1 ≤ w1.heap.size := by omega
  clear hgrow1 hnil1 hown1 hX1 x9 x8 x12 x11 HBp HOp HXp HNp hsp hs
  refine (RPut8_c p hwp _).mono ?_
  rintro e wp ⟨gp, cp, rfl, hownp, hbp⟩
  have HNp := Lib.hid (own_newsC hownp)
  have HOp := Lib.hid (own_below HO1.out hbp)
  have HBp := Lib.hid (HB1.out.trans (hbp.mono (Nat.le_trans (Nat.le_succ _) hs1)))
  have HXp := Lib.hid (HX1.out.below HX1.out.lt hbp)
  have hsp := HXp.out.lt
  have hs : w.heap.size + 1 ≤ wp.heap.size := Nat.le_trans hs1 hbp.size
  clear hbp hownp HO1 HB1 HX1 hs1
  have x9 := (HXp.out.cell 9).trans (show _ = some (Value.int .u64 (z : Nat)) from rfl)
  have x8 := (HXp.out.cell 8).trans (show _ = some (Value.int .u64 (p : Nat)) from rfl)
  have x12 := (HXp.out.cell 12).trans (show _ = some (Value.int .u64 (o : Nat)) from rfl)
  have x11 := (HXp.out.cell 11).trans (show _ = some (Value.int .u32 (k : Nat)) from rfl)
  go_wp2_with (at_builtin; refine wpList_append_own _ rfl _ _ 31 rfl (w.heap.size + 1) 5 i0 (.int .u8 0) 1 1 Tryd.underlying31 hi hz0 hz1 hz2 rfl (by decide) _ 8 (cs (nsB [(z, 8)])) rfl HOp.out ⟨gp, 0, none⟩ 8 cp (cs (putL p 8)) rfl (by rw [cs_length, putL_length]) HNp.out (cs_one _) (by unfold maxLen; omega) (by omega) hs ?_; intro v2 w2 hown2 hgrow2 hnil2; rw [nsB_snoc] at hown2; obtain ⟨g2, c2, rfl, hge2, hgl2, _, _⟩ := own_madeC hown2 (by omega); have hX2 := HXp.out.kept hgrow2 ⟨hsp, own_someC (by omega)⟩; clear x9 x8 x12 x11; have x9 := (hX2.cell 9).trans (show _ = some (Value.int .u64 (z : Nat)) from rfl); have x8 := (hX2.cell 8).trans (show _ = some (Value.int .u64 (p : Nat)) from rfl); have x12 := (hX2.cell 12).trans (show _ = some (Value.int .u64 (o : Nat)) from rfl); have x11 := (hX2.cell 11).trans (show _ = some (Value.int .u32 (k : Nat)) from rfl))
  have HB2 : Hid (Below w.heap.size w w2) := HBp.out.grown hgrow2 (by omega) (fun q hq => by
    have e2 : some g1 = some q := hq
    injection e2 with e2
    omega)
  have HO2 := Lib.hid hown2
  have HX2 := Lib.hid hX2
  have hs2 : w.heap.size + 1 ≤ w2.heap.size := by omega
  clear hgrow2 hnil2 hown2 hX2 x9 x8 x12 x11 HBp HOp HXp HNp hsp hs
  refine (RPut8_c o hwo _).mono ?_
  rintro e wp ⟨gp, cp, rfl, hownp, hbp⟩
  have HNp := Lib.hid (own_newsC hownp)
  have HOp := Lib.hid (own_below HO2.out hbp)
  have HBp := Lib.hid (HB2.out.trans (hbp.mono (Nat.le_trans (Nat.le_succ _) hs2)))
  have HXp := Lib.hid (HX2.out.below HX2.out.lt hbp)
  have hsp := HXp.out.lt
  have hs : w.heap.size + 1 ≤ wp.heap.size := Nat.le_trans hs2 hbp.size
  clear hbp hownp HO2 HB2 HX2 hs2
  have x9 := (HXp.out.cell 9).trans (show _ = some (Value.int .u64 (z : Nat)) from rfl)
  have x8 := (HXp.out.cell 8).trans (show _ = some (Value.int .u64 (p : Nat)) from rfl)
  have x12 := (HXp.out.cell 12).trans (show _ = some (Value.int .u64 (o : Nat)) from rfl)
  have x11 := (HXp.out.cell 11).trans (show _ = some (Value.int .u32 (k : Nat)) from rfl)
  go_wp2_with (at_builtin; refine wpList_append_own _ rfl _ _ 31 rfl (w.heap.size + 1) 5 i0 (.int .u8 0) 1 1 Tryd.underlying31 hi hz0 hz1 hz2 rfl (by decide) _ 16 (cs (nsB [(z, 8), (p, 8)])) rfl HOp.out ⟨gp, 0, none⟩ 8 cp (cs (putL o 8)) rfl (by rw [cs_length, putL_length]) HNp.out (cs_one _) (by unfold maxLen; omega) (by omega) hs ?_; intro v3 w3 hown3 hgrow3 hnil3; rw [nsB_snoc] at hown3; obtain ⟨g3, c3, rfl, hge3, hgl3, _, _⟩ := own_madeC hown3 (by omega); have hX3 := HXp.out.kept hgrow3 ⟨hsp, own_someC (by omega)⟩; clear x9 x8 x12 x11; have x9 := (hX3.cell 9).trans (show _ = some (Value.int .u64 (z : Nat)) from rfl); have x8 := (hX3.cell 8).trans (show _ = some (Value.int .u64 (p : Nat)) from rfl); have x12 := (hX3.cell 12).trans (show _ = some (Value.int .u64 (o : Nat)) from rfl); have x11 := (hX3.cell 11).trans (show _ = some (Value.int .u32 (k : Nat)) from rfl))
  have HB3 : Hid (Below w.heap.size w w3) := HBp.out.grown hgrow3 (by omega) (fun q hq => by
    have e2 : some g2 = some q := hq
    injection e2 with e2
    omega)
  have HO3 := Lib.hid hown3
  have HX3 := Lib.hid hX3
  have hs3 : w.heap.size + 1 ≤ w3.heap.size := by omega
  clear hgrow3 hnil3 hown3 hX3 x9 x8 x12 x11 HBp HOp HXp HNp hsp hs
  have ha1 := (Below.refl w3.heap.size w3).alloc (Nat.le_refl _) (.cells #[.int .u8 1, .int .u8 0, .int .u8 24, .int .u8 0] 5)
  have HR1 := Lib.hid (own_in (l := [ofN 1, ofN 0, ofN 24, ofN 0]) (World.ownsRow_lit (base := w3.heap.size) (e := 5) (size := 1) w3 #[.int .u8 1, .int .u8 0, .int .u8 24, .int .u8 0] 4 (Nat.le_refl _) (by unfold maxLen; omega) rfl))
  have HR2 := Lib.hid (own_in (own_below HO3.out ha1))
  have HBa := Lib.hid (HB3.out.trans (ha1.mono (by omega)))
  have hsa : w.heap.size ≤ (w3.alloc (.cells #[.int .u8 1, .int .u8 0, .int .u8 24, .int .u8 0] 5)).heap.size := HBa.out.size
  clear ha1
  refine (Join2C_c HR1.out HR2.out (by omega) (by omega) _ _ (by simp)).mono ?_
  rintro e wj ⟨E, N, cj, rfl, hownj, hN, hbj⟩
  obtain rfl : N = 28 := hN
  have HOj := Lib.hid hownj
  have HBj := Lib.hid (HBa.out.trans (hbj.mono hsa))
  clear hbj hownj
  go_wp2
  go_ret
  exact ⟨_, _, rfl, own_base2 HOj.out hsa, HBj.out⟩
set_option maxHeartbeats 2000000 in
theorem extra_8 {m y mo d hh mi s : Int} {sum p z k o : Nat} {nm : List UInt8} (hwz : z < two64) (hwp : p < two64) (hwo : o < two64) (hwk : k < 4294967296) (iz : decide ((4294967295 : Int) ≤ (z : Int)) = false) (ip : decide ((4294967295 : Int) ≤ (p : Int)) = false) (io : decide ((4294967295 : Int) ≤ (o : Int)) = false) (ik : decide ((65535 : Int) ≤ (k : Int)) = true) (w : World) :
    Calls Tryd.prog 28 #[.agg #[.int .i64 m, .int .i64 y, .int .i64 mo, .int .i64 d, .int .i64 hh, .int .i64 mi, .int .i64 s, .int .u32 sum, .int .u64 p, .int .u64 z, .string (S nm), .int .u32 k, .int .u64 o]] w fun e w' => ∃ A c', e = .returned (.slice A 8 c') ∧ w'.ownsRow w.heap.size 5 1 (.slice A 8 c') 8 (cs ([ofN 1, ofN 0, ofN 4, ofN 0] ++ nsB [(k, 4)])) ∧ Below w.heap.size w w' := by
  obtain ⟨i0, hi, hz0, hz1, hz2⟩ := info_parts info_u8
  have hk64 : k < two64 := by unfold two64; omega
  have hkw : IntKind.u64.wrap (k : Int) = (k : Int) := by rw [IntKind.wrap_u64]; omega
  have hb1 := (Below.refl w.heap.size w).alloc (Nat.le_refl _) (.cells #[.int .i64 m, .int .i64 y, .int .i64 mo, .int .i64 d, .int .i64 hh, .int .i64 mi, .int .i64 s, .int .u32 sum, .int .u64 p, .int .u64 z, .string (S nm), .int .u32 k, .int .u64 o] 39)
  have HB0 := Lib.hid (hb1.alloc (by simp) (.cells #[] 5))
  have HX0 : Hid (Blk ((w.alloc (.cells #[.int .i64 m, .int .i64 y, .int .i64 mo, .int .i64 d, .int .i64 hh, .int .i64 mi, .int .i64 s, .int .u32 sum, .int .u64 p, .int .u64 z, .string (S nm), .int .u32 k, .int .u64 o] 39)).alloc (.cells #[] 5)) w.heap.size 39 #[.int .i64 m, .int .i64 y, .int .i64 mo, .int .i64 d, .int .i64 hh, .int .i64 mi, .int .i64 s, .int .u32 sum, .int .u64 p, .int .u64 z, .string (S nm), .int .u32 k, .int .u64 o]) := (Blk.new w 39 #[.int .i64 m, .int .i64 y, .int .i64 mo, .int .i64 d, .int .i64 hh, .int .i64 mi, .int .i64 s, .int .u32 sum, .int .u64 p, .int .u64 z, .string (S nm), .int .u32 k, .int .u64 o]).below (Blk.new w 39 #[.int .i64 m, .int .i64 y, .int .i64 mo, .int .i64 d, .int .i64 hh, .int .i64 mi, .int .i64 s, .int .u32 sum, .int .u64 p, .int .u64 z, .string (S nm), .int .u32 k, .int .u64 o]).lt ((Below.refl _ _).alloc (Nat.le_refl _) _)
  have HO0 : Hid (((w.alloc (.cells #[.int .i64 m, .int .i64 y, .int .i64 mo, .int .i64 d, .int .i64 hh, .int .i64 mi, .int .i64 s, .int .u32 sum, .int .u64 p, .int .u64 z, .string (S nm), .int .u32 k, .int .u64 o] 39)).alloc (.cells #[] 5)).ownsRow (w.heap.size + 1) 5 1 (.slice (some ⟨w.heap.size + 1, 0, none⟩) 0 0) 0 (cs (nsB []))) := by
    have h := World.ownsRow_made (base := w.heap.size + 1) (e := 5) (size := 1) (w.alloc (.cells #[.int .i64 m, .int .i64 y, .int .i64 mo, .int .i64 d, .int .i64 hh, .int .i64 mi, .int .i64 s, .int .u32 sum, .int .u64 p, .int .u64 z, .string (S nm), .int .u32 k, .int .u64 o] 39)) #[] 0 (by simp) (Nat.zero_le _) rfl
    have e : (w.alloc (.cells #[.int .i64 m, .int .i64 y, .int .i64 mo, .int .i64 d, .int .i64 hh, .int .i64 mi, .int .i64 s, .int .u32 sum, .int .u64 p, .int .u64 z, .string (S nm), .int .u32 k, .int .u64 o] 39)).heap.size = w.heap.size + 1 := by simp
    rw [e] at h
    exact h
  have hge0 : w.heap.size + 1 ≤ w.heap.size + 1 := Nat.le_refl _
  have hs0 : w.heap.size + 1 ≤ ((w.alloc (.cells #[.int .i64 m, .int .i64 y, .int .i64 mo, .int .i64 d, .int .i64 hh, .int .i64 mi, .int .i64 s, .int .u32 sum, .int .u64 p, .int .u64 z, .string (S nm), .int .u32 k, .int .u64 o] 39)).alloc (.cells #[] 5)).heap.size := by simp
  clear hb1
  go_enter Tryd.func28, Tryd.ntmps28
  go_wp2_with fail
  refine (RPut4_c k hk64 _).mono ?_
  rintro e wp ⟨gp, cp, rfl, hownp, hbp⟩
  have HNp := Lib.hid (own_newsC hownp)
  have HOp := Lib.hid (own_below HO0.out hbp)
  have HBp := Lib.hid (HB0.out.trans (hbp.mono (Nat.le_trans (Nat.le_succ _) hs0)))
  have HXp := Lib.hid (HX0.out.below HX0.out.lt hbp)
  have hsp := HXp.out.lt
  have hs : w.heap.size + 1 ≤ wp.heap.size := Nat.le_trans hs0 hbp.size
  clear hbp hownp HO0 HB0 HX0 hs0
  have x9 := (HXp.out.cell 9).trans (show _ = some (Value.int .u64 (z : Nat)) from rfl)
  have x8 := (HXp.out.cell 8).trans (show _ = some (Value.int .u64 (p : Nat)) from rfl)
  have x12 := (HXp.out.cell 12).trans (show _ = some (Value.int .u64 (o : Nat)) from rfl)
  have x11 := (HXp.out.cell 11).trans (show _ = some (Value.int .u32 (k : Nat)) from rfl)
  go_wp2_with (at_builtin; refine wpList_append_own _ rfl _ _ 31 rfl (w.heap.size + 1) 5 i0 (.int .u8 0) 1 1 Tryd.underlying31 hi hz0 hz1 hz2 rfl (by decide) _ 0 (cs (nsB [])) rfl HOp.out ⟨gp, 0, none⟩ 4 cp (cs (putL k 4)) rfl (by rw [cs_length, putL_length]) HNp.out (cs_one _) (by unfold maxLen; omega) (by omega) hs ?_; intro v1 w1 hown1 hgrow1 hnil1; rw [nsB_snoc] at hown1; obtain ⟨g1, c1, rfl, hge1, hgl1, _, _⟩ := own_madeC hown1 (by omega); have hX1 := HXp.out.kept hgrow1 ⟨hsp, own_someC (by omega)⟩; clear x9 x8 x12 x11; have x9 := (hX1.cell 9).trans (show _ = some (Value.int .u64 (z : Nat)) from rfl); have x8 := (hX1.cell 8).trans (show _ = some (Value.int .u64 (p : Nat)) from rfl); have x12 := (hX1.cell 12).trans (show _ = some (Value.int .u64 (o : Nat)) from rfl); have x11 := (hX1.cell 11).trans (show _ = some (Value.int .u32 (k : Nat)) from rfl))
  have HB1 : Hid (Below w.heap.size w w1) := HBp.out.grown hgrow1 (by omega) (fun q hq => by
    have e2 : some (w.heap.size + 1) = some q := hq
    injection e2 with e2
    omega)
  have HO1 := Lib.hid hown1
  have HX1 := Lib.hid hX1
  have hs1 : w.heap.size + 1 ≤ w1.heap.size := by omega
  clear hgrow1 hnil1 hown1 hX1 x9 x8 x12 x11 HBp HOp HXp HNp hsp hs
  have ha1 := (Below.refl w1.heap.size w1).alloc (Nat.le_refl _) (.cells #[.int .u8 1, .int .u8 0, .int .u8 4, .int .u8 0] 5)
  have HR1 := Lib.hid (own_in (l := [ofN 1, ofN 0, ofN 4, ofN 0]) (World.ownsRow_lit (base := w1.heap.size) (e := 5) (size := 1) w1 #[.int .u8 1, .int .u8 0, .int .u8 4, .int .u8 0] 4 (Nat.le_refl _) (by unfold maxLen; omega) rfl))
  have HR2 := Lib.hid (own_in (own_below HO1.out ha1))
  have HBa := Lib.hid (HB1.out.trans (ha1.mono (by omega)))
  have hsa : w.heap.size ≤ (w1.alloc (.cells #[.int .u8 1, .int .u8 0, .int .u8 4, .int .u8 0] 5)).heap.size := HBa.out.size
  clear ha1
  refine (Join2C_c HR1.out HR2.out (by omega) (by omega) _ _ (by simp)).mono ?_
  rintro e wj ⟨E, N, cj, rfl, hownj, hN, hbj⟩
  obtain rfl : N = 8 := hN
  have HOj := Lib.hid hownj
  have HBj := Lib.hid (HBa.out.trans (hbj.mono hsa))
  clear hbj hownj
  go_wp2
  go_ret
  exact ⟨_, _, rfl, own_base2 HOj.out hsa, HBj.out⟩
set_option maxHeartbeats 2000000 in
theorem extra_9 {m y mo d hh mi s : Int} {sum p z k o : Nat} {nm : List UInt8} (hwz : z < two64) (hwp : p < two64) (hwo : o < two64) (hwk : k < 4294967296) (iz : decide ((4294967295 : Int) ≤ (z : Int)) = true) (ip : decide ((4294967295 : Int) ≤ (p : Int)) = false) (io : decide ((4294967295 : Int) ≤ (o : Int)) = false) (ik : decide ((65535 : Int) ≤ (k : Int)) = true) (w : World) :
    Calls Tryd.prog 28 #[.agg #[.int .i64 m, .int .i64 y, .int .i64 mo, .int .i64 d, .int .i64 hh, .int .i64 mi, .int .i64 s, .int .u32 sum, .int .u64 p, .int .u64 z, .string (S nm), .int .u32 k, .int .u64 o]] w fun e w' => ∃ A c', e = .returned (.slice A 16 c') ∧ w'.ownsRow w.heap.size 5 1 (.slice A 16 c') 16 (cs ([ofN 1, ofN 0, ofN 12, ofN 0] ++ nsB [(z, 8), (k, 4)])) ∧ Below w.heap.size w w' := by
  obtain ⟨i0, hi, hz0, hz1, hz2⟩ := info_parts info_u8
  have hk64 : k < two64 := by unfold two64; omega
  have hkw : IntKind.u64.wrap (k : Int) = (k : Int) := by rw [IntKind.wrap_u64]; omega
  have hb1 := (Below.refl w.heap.size w).alloc (Nat.le_refl _) (.cells #[.int .i64 m, .int .i64 y, .int .i64 mo, .int .i64 d, .int .i64 hh, .int .i64 mi, .int .i64 s, .int .u32 sum, .int .u64 p, .int .u64 z, .string (S nm), .int .u32 k, .int .u64 o] 39)
  have HB0 := Lib.hid (hb1.alloc (by simp) (.cells #[] 5))
  have HX0 : Hid (Blk ((w.alloc (.cells #[.int .i64 m, .int .i64 y, .int .i64 mo, .int .i64 d, .int .i64 hh, .int .i64 mi, .int .i64 s, .int .u32 sum, .int .u64 p, .int .u64 z, .string (S nm), .int .u32 k, .int .u64 o] 39)).alloc (.cells #[] 5)) w.heap.size 39 #[.int .i64 m, .int .i64 y, .int .i64 mo, .int .i64 d, .int .i64 hh, .int .i64 mi, .int .i64 s, .int .u32 sum, .int .u64 p, .int .u64 z, .string (S nm), .int .u32 k, .int .u64 o]) := (Blk.new w 39 #[.int .i64 m, .int .i64 y, .int .i64 mo, .int .i64 d, .int .i64 hh, .int .i64 mi, .int .i64 s, .int .u32 sum, .int .u64 p, .int .u64 z, .string (S nm), .int .u32 k, .int .u64 o]).below (Blk.new w 39 #[.int .i64 m, .int .i64 y, .int .i64 mo, .int .i64 d, .int .i64 hh, .int .i64 mi, .int .i64 s, .int .u32 sum, .int .u64 p, .int .u64 z, .string (S nm), .int .u32 k, .int .u64 o]).lt ((Below.refl _ _).alloc (Nat.le_refl _) _)
  have HO0 : Hid (((w.alloc (.cells #[.int .i64 m, .int .i64 y, .int .i64 mo, .int .i64 d, .int .i64 hh, .int .i64 mi, .int .i64 s, .int .u32 sum, .int .u64 p, .int .u64 z, .string (S nm), .int .u32 k, .int .u64 o] 39)).alloc (.cells #[] 5)).ownsRow (w.heap.size + 1) 5 1 (.slice (some ⟨w.heap.size + 1, 0, none⟩) 0 0) 0 (cs (nsB []))) := by
    have h := World.ownsRow_made (base := w.heap.size + 1) (e := 5) (size := 1) (w.alloc (.cells #[.int .i64 m, .int .i64 y, .int .i64 mo, .int .i64 d, .int .i64 hh, .int .i64 mi, .int .i64 s, .int .u32 sum, .int .u64 p, .int .u64 z, .string (S nm), .int .u32 k, .int .u64 o] 39)) #[] 0 (by simp) (Nat.zero_le _) rfl
    have e : (w.alloc (.cells #[.int .i64 m, .int .i64 y, .int .i64 mo, .int .i64 d, .int .i64 hh, .int .i64 mi, .int .i64 s, .int .u32 sum, .int .u64 p, .int .u64 z, .string (S nm), .int .u32 k, .int .u64 o] 39)).heap.size = w.heap.size + 1 := by simp
    rw [e] at h
    exact h
  have hge0 : w.heap.size + 1 ≤ w.heap.size + 1 := Nat.le_refl _
  have hs0 : w.heap.size + 1 ≤ ((w.alloc (.cells #[.int .i64 m, .int .i64 y, .int .i64 mo, .int .i64 d, .int .i64 hh, .int .i64 mi, .int .i64 s, .int .u32 sum, .int .u64 p, .int .u64 z, .string (S nm), .int .u32 k, .int .u64 o] 39)).alloc (.cells #[] 5)).heap.size := by simp
  clear hb1
  go_enter Tryd.func28, Tryd.ntmps28
  go_wp2_with fail
  refine (RPut8_c z hwz _).mono ?_
  rintro e wp ⟨gp, cp, rfl, hownp, hbp⟩
  have HNp := Lib.hid (own_newsC hownp)
  have HOp := Lib.hid (own_below HO0.out hbp)
  have HBp := Lib.hid (HB0.out.trans (hbp.mono (Nat.le_trans (Nat.le_succ _) hs0)))
  have HXp := Lib.hid (HX0.out.below HX0.out.lt hbp)
  have hsp := HXp.out.lt
  have hs : w.heap.size + 1 ≤ wp.heap.size := Nat.le_trans hs0 hbp.size
  clear hbp hownp HO0 HB0 HX0 hs0
  have x9 := (HXp.out.cell 9).trans (show _ = some (Value.int .u64 (z : Nat)) from rfl)
  have x8 := (HXp.out.cell 8).trans (show _ = some (Value.int .u64 (p : Nat)) from rfl)
  have x12 := (HXp.out.cell 12).trans (show _ = some (Value.int .u64 (o : Nat)) from rfl)
  have x11 := (HXp.out.cell 11).trans (show _ = some (Value.int .u32 (k : Nat)) from rfl)
  go_wp2_with (at_builtin; refine wpList_append_own _ rfl _ _ 31 rfl (w.heap.size + 1) 5 i0 (.int .u8 0) 1 1 Tryd.underlying31 hi hz0 hz1 hz2 rfl (by decide) _ 0 (cs (nsB [])) rfl HOp.out ⟨gp, 0, none⟩ 8 cp (cs (putL z 8)) rfl (by rw [cs_length, putL_length]) HNp.out (cs_one _) (by unfold maxLen; omega) (by omega) hs ?_; intro v1 w1 hown1 hgrow1 hnil1; rw [nsB_snoc] at hown1; obtain ⟨g1, c1, rfl, hge1, hgl1, _, _⟩ := own_madeC hown1 (by omega); have hX1 := HXp.out.kept hgrow1 ⟨hsp, own_someC (by omega)⟩; clear x9 x8 x12 x11; have x9 := (hX1.cell 9).trans (show _ = some (Value.int .u64 (z : Nat)) from rfl); have x8 := (hX1.cell 8).trans (show _ = some (Value.int .u64 (p : Nat)) from rfl); have x12 := (hX1.cell 12).trans (show _ = some (Value.int .u64 (o : Nat)) from rfl); have x11 := (hX1.cell 11).trans (show _ = some (Value.int .u32 (k : Nat)) from rfl))
  have HB1 : Hid (Below w.heap.size w w1) := HBp.out.grown hgrow1 (by omega) (fun q hq => by
    have e2 : some (w.heap.size + 1) = some q := hq
    injection e2 with e2
    omega)
  have HO1 := Lib.hid hown1
  have HX1 := Lib.hid hX1
  have hs1 : w.heap.size + 1 ≤ w1.heap.size := by omega
  clear hgrow1 hnil1 hown1 hX1 x9 x8 x12 x11 HBp HOp HXp HNp hsp hs
  refine (RPut4_c k hk64 _).mono ?_
  rintro e wp ⟨gp, cp, rfl, hownp, hbp⟩
  have HNp := Lib.hid (own_newsC hownp)
  have HOp := Lib.hid (own_below HO1.out hbp)
  have HBp := Lib.hid (HB1.out.trans (hbp.mono (Nat.le_trans (Nat.le_succ _) hs1)))
  have HXp := Lib.hid (HX1.out.below HX1.out.lt hbp)
  have hsp := HXp.out.lt
  have hs : w.heap.size + 1 ≤ wp.heap.size := Nat.le_trans hs1 hbp.size
  clear hbp hownp HO1 HB1 HX1 hs1
  have x9 := (HXp.out.cell 9).trans (show _ = some (Value.int .u64 (z : Nat)) from rfl)
  have x8 := (HXp.out.cell 8).trans (show _ = some (Value.int .u64 (p : Nat)) from rfl)
  have x12 := (HXp.out.cell 12).trans (show _ = some (Value.int .u64 (o : Nat)) from rfl)
  have x11 := (HXp.out.cell 11).trans (show _ = some (Value.int .u32 (k : Nat)) from rfl)
  go_wp2_with (at_builtin; refine wpList_append_own _ rfl _ _ 31 rfl (w.heap.size + 1) 5 i0 (.int .u8 0) 1 1 Tryd.underlying31 hi hz0 hz1 hz2 rfl (by decide) _ 8 (cs (nsB [(z, 8)])) rfl HOp.out ⟨gp, 0, none⟩ 4 cp (cs (putL k 4)) rfl (by rw [cs_length, putL_length]) HNp.out (cs_one _) (by unfold maxLen; omega) (by omega) hs ?_; intro v2 w2 hown2 hgrow2 hnil2; rw [nsB_snoc] at hown2; obtain ⟨g2, c2, rfl, hge2, hgl2, _, _⟩ := own_madeC hown2 (by omega); have hX2 := HXp.out.kept hgrow2 ⟨hsp, own_someC (by omega)⟩; clear x9 x8 x12 x11; have x9 := (hX2.cell 9).trans (show _ = some (Value.int .u64 (z : Nat)) from rfl); have x8 := (hX2.cell 8).trans (show _ = some (Value.int .u64 (p : Nat)) from rfl); have x12 := (hX2.cell 12).trans (show _ = some (Value.int .u64 (o : Nat)) from rfl); have x11 := (hX2.cell 11).trans (show _ = some (Value.int .u32 (k : Nat)) from rfl))
  have HB2 : Hid (Below w.heap.size w w2) := HBp.out.grown hgrow2 (by omega) (fun q hq => by
    have e2 : some g1 = some q := hq
    injection e2 with e2
    omega)
  have HO2 := Lib.hid hown2
  have HX2 := Lib.hid hX2
  have hs2 : w.heap.size + 1 ≤ w2.heap.size := by omega
  clear hgrow2 hnil2 hown2 hX2 x9 x8 x12 x11 HBp HOp HXp HNp hsp hs
  have ha1 := (Below.refl w2.heap.size w2).alloc (Nat.le_refl _) (.cells #[.int .u8 1, .int .u8 0, .int .u8 12, .int .u8 0] 5)
  have HR1 := Lib.hid (own_in (l := [ofN 1, ofN 0, ofN 12, ofN 0]) (World.ownsRow_lit (base := w2.heap.size) (e := 5) (size := 1) w2 #[.int .u8 1, .int .u8 0, .int .u8 12, .int .u8 0] 4 (Nat.le_refl _) (by unfold maxLen; omega) rfl))
  have HR2 := Lib.hid (own_in (own_below HO2.out ha1))
  have HBa := Lib.hid (HB2.out.trans (ha1.mono (by omega)))
  have hsa : w.heap.size ≤ (w2.alloc (.cells #[.int .u8 1, .int .u8 0, .int .u8 12, .int .u8 0] 5)).heap.size := HBa.out.size
  clear ha1
  refine (Join2C_c HR1.out HR2.out (by omega) (by omega) _ _ (by simp)).mono ?_
  rintro e wj ⟨E, N, cj, rfl, hownj, hN, hbj⟩
  obtain rfl : N = 16 := hN
  have HOj := Lib.hid hownj
  have HBj := Lib.hid (HBa.out.trans (hbj.mono hsa))
  clear hbj hownj
  go_wp2
  go_ret
  exact ⟨_, _, rfl, own_base2 HOj.out hsa, HBj.out⟩
set_option maxHeartbeats 2000000 in
theorem extra_10 {m y mo d hh mi s : Int} {sum p z k o : Nat} {nm : List UInt8} (hwz : z < two64) (hwp : p < two64) (hwo : o < two64) (hwk : k < 4294967296) (iz : decide ((4294967295 : Int) ≤ (z : Int)) = false) (ip : decide ((4294967295 : Int) ≤ (p : Int)) = true) (io : decide ((4294967295 : Int) ≤ (o : Int)) = false) (ik : decide ((65535 : Int) ≤ (k : Int)) = true) (w : World) :
    Calls Tryd.prog 28 #[.agg #[.int .i64 m, .int .i64 y, .int .i64 mo, .int .i64 d, .int .i64 hh, .int .i64 mi, .int .i64 s, .int .u32 sum, .int .u64 p, .int .u64 z, .string (S nm), .int .u32 k, .int .u64 o]] w fun e w' => ∃ A c', e = .returned (.slice A 16 c') ∧ w'.ownsRow w.heap.size 5 1 (.slice A 16 c') 16 (cs ([ofN 1, ofN 0, ofN 12, ofN 0] ++ nsB [(p, 8), (k, 4)])) ∧ Below w.heap.size w w' := by
  obtain ⟨i0, hi, hz0, hz1, hz2⟩ := info_parts info_u8
  have hk64 : k < two64 := by unfold two64; omega
  have hkw : IntKind.u64.wrap (k : Int) = (k : Int) := by rw [IntKind.wrap_u64]; omega
  have hb1 := (Below.refl w.heap.size w).alloc (Nat.le_refl _) (.cells #[.int .i64 m, .int .i64 y, .int .i64 mo, .int .i64 d, .int .i64 hh, .int .i64 mi, .int .i64 s, .int .u32 sum, .int .u64 p, .int .u64 z, .string (S nm), .int .u32 k, .int .u64 o] 39)
  have HB0 := Lib.hid (hb1.alloc (by simp) (.cells #[] 5))
  have HX0 : Hid (Blk ((w.alloc (.cells #[.int .i64 m, .int .i64 y, .int .i64 mo, .int .i64 d, .int .i64 hh, .int .i64 mi, .int .i64 s, .int .u32 sum, .int .u64 p, .int .u64 z, .string (S nm), .int .u32 k, .int .u64 o] 39)).alloc (.cells #[] 5)) w.heap.size 39 #[.int .i64 m, .int .i64 y, .int .i64 mo, .int .i64 d, .int .i64 hh, .int .i64 mi, .int .i64 s, .int .u32 sum, .int .u64 p, .int .u64 z, .string (S nm), .int .u32 k, .int .u64 o]) := (Blk.new w 39 #[.int .i64 m, .int .i64 y, .int .i64 mo, .int .i64 d, .int .i64 hh, .int .i64 mi, .int .i64 s, .int .u32 sum, .int .u64 p, .int .u64 z, .string (S nm), .int .u32 k, .int .u64 o]).below (Blk.new w 39 #[.int .i64 m, .int .i64 y, .int .i64 mo, .int .i64 d, .int .i64 hh, .int .i64 mi, .int .i64 s, .int .u32 sum, .int .u64 p, .int .u64 z, .string (S nm), .int .u32 k, .int .u64 o]).lt ((Below.refl _ _).alloc (Nat.le_refl _) _)
  have HO0 : Hid (((w.alloc (.cells #[.int .i64 m, .int .i64 y, .int .i64 mo, .int .i64 d, .int .i64 hh, .int .i64 mi, .int .i64 s, .int .u32 sum, .int .u64 p, .int .u64 z, .string (S nm), .int .u32 k, .int .u64 o] 39)).alloc (.cells #[] 5)).ownsRow (w.heap.size + 1) 5 1 (.slice (some ⟨w.heap.size + 1, 0, none⟩) 0 0) 0 (cs (nsB []))) := by
    have h := World.ownsRow_made (base := w.heap.size + 1) (e := 5) (size := 1) (w.alloc (.cells #[.int .i64 m, .int .i64 y, .int .i64 mo, .int .i64 d, .int .i64 hh, .int .i64 mi, .int .i64 s, .int .u32 sum, .int .u64 p, .int .u64 z, .string (S nm), .int .u32 k, .int .u64 o] 39)) #[] 0 (by simp) (Nat.zero_le _) rfl
    have e : (w.alloc (.cells #[.int .i64 m, .int .i64 y, .int .i64 mo, .int .i64 d, .int .i64 hh, .int .i64 mi, .int .i64 s, .int .u32 sum, .int .u64 p, .int .u64 z, .string (S nm), .int .u32 k, .int .u64 o] 39)).heap.size = w.heap.size + 1 := by simp
    rw [e] at h
    exact h
  have hge0 : w.heap.size + 1 ≤ w.heap.size + 1 := Nat.le_refl _
  have hs0 : w.heap.size + 1 ≤ ((w.alloc (.cells #[.int .i64 m, .int .i64 y, .int .i64 mo, .int .i64 d, .int .i64 hh, .int .i64 mi, .int .i64 s, .int .u32 sum, .int .u64 p, .int .u64 z, .string (S nm), .int .u32 k, .int .u64 o] 39)).alloc (.cells #[] 5)).heap.size := by simp
  clear hb1
  go_enter Tryd.func28, Tryd.ntmps28
  go_wp2_with fail
  refine (RPut8_c p hwp _).mono ?_
  rintro e wp ⟨gp, cp, rfl, hownp, hbp⟩
  have HNp := Lib.hid (own_newsC hownp)
  have HOp := Lib.hid (own_below HO0.out hbp)
  have HBp := Lib.hid (HB0.out.trans (hbp.mono (Nat.le_trans (Nat.le_succ _) hs0)))
  have HXp := Lib.hid (HX0.out.below HX0.out.lt hbp)
  have hsp := HXp.out.lt
  have hs : w.heap.size + 1 ≤ wp.heap.size := Nat.le_trans hs0 hbp.size
  clear hbp hownp HO0 HB0 HX0 hs0
  have x9 := (HXp.out.cell 9).trans (show _ = some (Value.int .u64 (z : Nat)) from rfl)
  have x8 := (HXp.out.cell 8).trans (show _ = some (Value.int .u64 (p : Nat)) from rfl)
  have x12 := (HXp.out.cell 12).trans (show _ = some (Value.int .u64 (o : Nat)) from rfl)
  have x11 := (HXp.out.cell 11).trans (show _ = some (Value.int .u32 (k : Nat)) from rfl)
  go_wp2_with (at_builtin; refine wpList_append_own _ rfl _ _ 31 rfl (w.heap.size + 1) 5 i0 (.int .u8 0) 1 1 Tryd.underlying31 hi hz0 hz1 hz2 rfl (by decide) _ 0 (cs (nsB [])) rfl HOp.out ⟨gp, 0, none⟩ 8 cp (cs (putL p 8)) rfl (by rw [cs_length, putL_length]) HNp.out (cs_one _) (by unfold maxLen; omega) (by omega) hs ?_; intro v1 w1 hown1 hgrow1 hnil1; rw [nsB_snoc] at hown1; obtain ⟨g1, c1, rfl, hge1, hgl1, _, _⟩ := own_madeC hown1 (by omega); have hX1 := HXp.out.kept hgrow1 ⟨hsp, own_someC (by omega)⟩; clear x9 x8 x12 x11; have x9 := (hX1.cell 9).trans (show _ = some (Value.int .u64 (z : Nat)) from rfl); have x8 := (hX1.cell 8).trans (show _ = some (Value.int .u64 (p : Nat)) from rfl); have x12 := (hX1.cell 12).trans (show _ = some (Value.int .u64 (o : Nat)) from rfl); have x11 := (hX1.cell 11).trans (show _ = some (Value.int .u32 (k : Nat)) from rfl))
  have HB1 : Hid (Below w.heap.size w w1) := HBp.out.grown hgrow1 (by omega) (fun q hq => by
    have e2 : some (w.heap.size + 1) = some q := hq
    injection e2 with e2
    omega)
  have HO1 := Lib.hid hown1
  have HX1 := Lib.hid hX1
  have hs1 : w.heap.size + 1 ≤ w1.heap.size := by omega
  clear hgrow1 hnil1 hown1 hX1 x9 x8 x12 x11 HBp HOp HXp HNp hsp hs
  refine (RPut4_c k hk64 _).mono ?_
  rintro e wp ⟨gp, cp, rfl, hownp, hbp⟩
  have HNp := Lib.hid (own_newsC hownp)
  have HOp := Lib.hid (own_below HO1.out hbp)
  have HBp := Lib.hid (HB1.out.trans (hbp.mono (Nat.le_trans (Nat.le_succ _) hs1)))
  have HXp := Lib.hid (HX1.out.below HX1.out.lt hbp)
  have hsp := HXp.out.lt
  have hs : w.heap.size + 1 ≤ wp.heap.size := Nat.le_trans hs1 hbp.size
  clear hbp hownp HO1 HB1 HX1 hs1
  have x9 := (HXp.out.cell 9).trans (show _ = some (Value.int .u64 (z : Nat)) from rfl)
  have x8 := (HXp.out.cell 8).trans (show _ = some (Value.int .u64 (p : Nat)) from rfl)
  have x12 := (HXp.out.cell 12).trans (show _ = some (Value.int .u64 (o : Nat)) from rfl)
  have x11 := (HXp.out.cell 11).trans (show _ = some (Value.int .u32 (k : Nat)) from rfl)
  go_wp2_with (at_builtin; refine wpList_append_own _ rfl _ _ 31 rfl (w.heap.size + 1) 5 i0 (.int .u8 0) 1 1 Tryd.underlying31 hi hz0 hz1 hz2 rfl (by decide) _ 8 (cs (nsB [(p, 8)])) rfl HOp.out ⟨gp, 0, none⟩ 4 cp (cs (putL k 4)) rfl (by rw [cs_length, putL_length]) HNp.out (cs_one _) (by unfold maxLen; omega) (by omega) hs ?_; intro v2 w2 hown2 hgrow2 hnil2; rw [nsB_snoc] at hown2; obtain ⟨g2, c2, rfl, hge2, hgl2, _, _⟩ := own_madeC hown2 (by omega); have hX2 := HXp.out.kept hgrow2 ⟨hsp, own_someC (by omega)⟩; clear x9 x8 x12 x11; have x9 := (hX2.cell 9).trans (show _ = some (Value.int .u64 (z : Nat)) from rfl); have x8 := (hX2.cell 8).trans (show _ = some (Value.int .u64 (p : Nat)) from rfl); have x12 := (hX2.cell 12).trans (show _ = some (Value.int .u64 (o : Nat)) from rfl); have x11 := (hX2.cell 11).trans (show _ = some (Value.int .u32 (k : Nat)) from rfl))
  have HB2 : Hid (Below w.heap.size w w2) := HBp.out.grown hgrow2 (by omega) (fun q hq => by
    have e2 : some g1 = some q := hq
    injection e2 with e2
    omega)
  have HO2 := Lib.hid hown2
  have HX2 := Lib.hid hX2
  have hs2 : w.heap.size + 1 ≤ w2.heap.size := by omega
  clear hgrow2 hnil2 hown2 hX2 x9 x8 x12 x11 HBp HOp HXp HNp hsp hs
  have ha1 := (Below.refl w2.heap.size w2).alloc (Nat.le_refl _) (.cells #[.int .u8 1, .int .u8 0, .int .u8 12, .int .u8 0] 5)
  have HR1 := Lib.hid (own_in (l := [ofN 1, ofN 0, ofN 12, ofN 0]) (World.ownsRow_lit (base := w2.heap.size) (e := 5) (size := 1) w2 #[.int .u8 1, .int .u8 0, .int .u8 12, .int .u8 0] 4 (Nat.le_refl _) (by unfold maxLen; omega) rfl))
  have HR2 := Lib.hid (own_in (own_below HO2.out ha1))
  have HBa := Lib.hid (HB2.out.trans (ha1.mono (by omega)))
  have hsa : w.heap.size ≤ (w2.alloc (.cells #[.int .u8 1, .int .u8 0, .int .u8 12, .int .u8 0] 5)).heap.size := HBa.out.size
  clear ha1
  refine (Join2C_c HR1.out HR2.out (by omega) (by omega) _ _ (by simp)).mono ?_
  rintro e wj ⟨E, N, cj, rfl, hownj, hN, hbj⟩
  obtain rfl : N = 16 := hN
  have HOj := Lib.hid hownj
  have HBj := Lib.hid (HBa.out.trans (hbj.mono hsa))
  clear hbj hownj
  go_wp2
  go_ret
  exact ⟨_, _, rfl, own_base2 HOj.out hsa, HBj.out⟩
set_option maxHeartbeats 2000000 in
theorem extra_11 {m y mo d hh mi s : Int} {sum p z k o : Nat} {nm : List UInt8} (hwz : z < two64) (hwp : p < two64) (hwo : o < two64) (hwk : k < 4294967296) (iz : decide ((4294967295 : Int) ≤ (z : Int)) = true) (ip : decide ((4294967295 : Int) ≤ (p : Int)) = true) (io : decide ((4294967295 : Int) ≤ (o : Int)) = false) (ik : decide ((65535 : Int) ≤ (k : Int)) = true) (w : World) :
    Calls Tryd.prog 28 #[.agg #[.int .i64 m, .int .i64 y, .int .i64 mo, .int .i64 d, .int .i64 hh, .int .i64 mi, .int .i64 s, .int .u32 sum, .int .u64 p, .int .u64 z, .string (S nm), .int .u32 k, .int .u64 o]] w fun e w' => ∃ A c', e = .returned (.slice A 24 c') ∧ w'.ownsRow w.heap.size 5 1 (.slice A 24 c') 24 (cs ([ofN 1, ofN 0, ofN 20, ofN 0] ++ nsB [(z, 8), (p, 8), (k, 4)])) ∧ Below w.heap.size w w' := by
  obtain ⟨i0, hi, hz0, hz1, hz2⟩ := info_parts info_u8
  have hk64 : k < two64 := by unfold two64; omega
  have hkw : IntKind.u64.wrap (k : Int) = (k : Int) := by rw [IntKind.wrap_u64]; omega
  have hb1 := (Below.refl w.heap.size w).alloc (Nat.le_refl _) (.cells #[.int .i64 m, .int .i64 y, .int .i64 mo, .int .i64 d, .int .i64 hh, .int .i64 mi, .int .i64 s, .int .u32 sum, .int .u64 p, .int .u64 z, .string (S nm), .int .u32 k, .int .u64 o] 39)
  have HB0 := Lib.hid (hb1.alloc (by simp) (.cells #[] 5))
  have HX0 : Hid (Blk ((w.alloc (.cells #[.int .i64 m, .int .i64 y, .int .i64 mo, .int .i64 d, .int .i64 hh, .int .i64 mi, .int .i64 s, .int .u32 sum, .int .u64 p, .int .u64 z, .string (S nm), .int .u32 k, .int .u64 o] 39)).alloc (.cells #[] 5)) w.heap.size 39 #[.int .i64 m, .int .i64 y, .int .i64 mo, .int .i64 d, .int .i64 hh, .int .i64 mi, .int .i64 s, .int .u32 sum, .int .u64 p, .int .u64 z, .string (S nm), .int .u32 k, .int .u64 o]) := (Blk.new w 39 #[.int .i64 m, .int .i64 y, .int .i64 mo, .int .i64 d, .int .i64 hh, .int .i64 mi, .int .i64 s, .int .u32 sum, .int .u64 p, .int .u64 z, .string (S nm), .int .u32 k, .int .u64 o]).below (Blk.new w 39 #[.int .i64 m, .int .i64 y, .int .i64 mo, .int .i64 d, .int .i64 hh, .int .i64 mi, .int .i64 s, .int .u32 sum, .int .u64 p, .int .u64 z, .string (S nm), .int .u32 k, .int .u64 o]).lt ((Below.refl _ _).alloc (Nat.le_refl _) _)
  have HO0 : Hid (((w.alloc (.cells #[.int .i64 m, .int .i64 y, .int .i64 mo, .int .i64 d, .int .i64 hh, .int .i64 mi, .int .i64 s, .int .u32 sum, .int .u64 p, .int .u64 z, .string (S nm), .int .u32 k, .int .u64 o] 39)).alloc (.cells #[] 5)).ownsRow (w.heap.size + 1) 5 1 (.slice (some ⟨w.heap.size + 1, 0, none⟩) 0 0) 0 (cs (nsB []))) := by
    have h := World.ownsRow_made (base := w.heap.size + 1) (e := 5) (size := 1) (w.alloc (.cells #[.int .i64 m, .int .i64 y, .int .i64 mo, .int .i64 d, .int .i64 hh, .int .i64 mi, .int .i64 s, .int .u32 sum, .int .u64 p, .int .u64 z, .string (S nm), .int .u32 k, .int .u64 o] 39)) #[] 0 (by simp) (Nat.zero_le _) rfl
    have e : (w.alloc (.cells #[.int .i64 m, .int .i64 y, .int .i64 mo, .int .i64 d, .int .i64 hh, .int .i64 mi, .int .i64 s, .int .u32 sum, .int .u64 p, .int .u64 z, .string (S nm), .int .u32 k, .int .u64 o] 39)).heap.size = w.heap.size + 1 := by simp
    rw [e] at h
    exact h
  have hge0 : w.heap.size + 1 ≤ w.heap.size + 1 := Nat.le_refl _
  have hs0 : w.heap.size + 1 ≤ ((w.alloc (.cells #[.int .i64 m, .int .i64 y, .int .i64 mo, .int .i64 d, .int .i64 hh, .int .i64 mi, .int .i64 s, .int .u32 sum, .int .u64 p, .int .u64 z, .string (S nm), .int .u32 k, .int .u64 o] 39)).alloc (.cells #[] 5)).heap.size := by simp
  clear hb1
  go_enter Tryd.func28, Tryd.ntmps28
  go_wp2_with fail
  refine (RPut8_c z hwz _).mono ?_
  rintro e wp ⟨gp, cp, rfl, hownp, hbp⟩
  have HNp := Lib.hid (own_newsC hownp)
  have HOp := Lib.hid (own_below HO0.out hbp)
  have HBp := Lib.hid (HB0.out.trans (hbp.mono (Nat.le_trans (Nat.le_succ _) hs0)))
  have HXp := Lib.hid (HX0.out.below HX0.out.lt hbp)
  have hsp := HXp.out.lt
  have hs : w.heap.size + 1 ≤ wp.heap.size := Nat.le_trans hs0 hbp.size
  clear hbp hownp HO0 HB0 HX0 hs0
  have x9 := (HXp.out.cell 9).trans (show _ = some (Value.int .u64 (z : Nat)) from rfl)
  have x8 := (HXp.out.cell 8).trans (show _ = some (Value.int .u64 (p : Nat)) from rfl)
  have x12 := (HXp.out.cell 12).trans (show _ = some (Value.int .u64 (o : Nat)) from rfl)
  have x11 := (HXp.out.cell 11).trans (show _ = some (Value.int .u32 (k : Nat)) from rfl)
  go_wp2_with (at_builtin; refine wpList_append_own _ rfl _ _ 31 rfl (w.heap.size + 1) 5 i0 (.int .u8 0) 1 1 Tryd.underlying31 hi hz0 hz1 hz2 rfl (by decide) _ 0 (cs (nsB [])) rfl HOp.out ⟨gp, 0, none⟩ 8 cp (cs (putL z 8)) rfl (by rw [cs_length, putL_length]) HNp.out (cs_one _) (by unfold maxLen; omega) (by omega) hs ?_; intro v1 w1 hown1 hgrow1 hnil1; rw [nsB_snoc] at hown1; obtain ⟨g1, c1, rfl, hge1, hgl1, _, _⟩ := own_madeC hown1 (by omega); have hX1 := HXp.out.kept hgrow1 ⟨hsp, own_someC (by omega)⟩; clear x9 x8 x12 x11; have x9 := (hX1.cell 9).trans (show _ = some (Value.int .u64 (z : Nat)) from rfl); have x8 := (hX1.cell 8).trans (show _ = some (Value.int .u64 (p : Nat)) from rfl); have x12 := (hX1.cell 12).trans (show _ = some (Value.int .u64 (o : Nat)) from rfl); have x11 := (hX1.cell 11).trans (show _ = some (Value.int .u32 (k : Nat)) from rfl))
  have HB1 : Hid (Below w.heap.size w w1) := HBp.out.grown hgrow1 (by omega) (fun q hq => by
    have e2 : some (w.heap.size + 1) = some q := hq
    injection e2 with e2
    omega)
  have HO1 := Lib.hid hown1
  have HX1 := Lib.hid hX1
  have hs1 : w.heap.size + 1 ≤ w1.heap.size := by omega
  clear hgrow1 hnil1 hown1 hX1 x9 x8 x12 x11 HBp HOp HXp HNp hsp hs
  refine (RPut8_c p hwp _).mono ?_
  rintro e wp ⟨gp, cp, rfl, hownp, hbp⟩
  have HNp := Lib.hid (own_newsC hownp)
  have HOp := Lib.hid (own_below HO1.out hbp)
  have HBp := Lib.hid (HB1.out.trans (hbp.mono (Nat.le_trans (Nat.le_succ _) hs1)))
  have HXp := Lib.hid (HX1.out.below HX1.out.lt hbp)
  have hsp := HXp.out.lt
  have hs : w.heap.size + 1 ≤ wp.heap.size := Nat.le_trans hs1 hbp.size
  clear hbp hownp HO1 HB1 HX1 hs1
  have x9 := (HXp.out.cell 9).trans (show _ = some (Value.int .u64 (z : Nat)) from rfl)
  have x8 := (HXp.out.cell 8).trans (show _ = some (Value.int .u64 (p : Nat)) from rfl)
  have x12 := (HXp.out.cell 12).trans (show _ = some (Value.int .u64 (o : Nat)) from rfl)
  have x11 := (HXp.out.cell 11).trans (show _ = some (Value.int .u32 (k : Nat)) from rfl)
  go_wp2_with (at_builtin; refine wpList_append_own _ rfl _ _ 31 rfl (w.heap.size + 1) 5 i0 (.int .u8 0) 1 1 Tryd.underlying31 hi hz0 hz1 hz2 rfl (by decide) _ 8 (cs (nsB [(z, 8)])) rfl HOp.out ⟨gp, 0, none⟩ 8 cp (cs (putL p 8)) rfl (by rw [cs_length, putL_length]) HNp.out (cs_one _) (by unfold maxLen; omega) (by omega) hs ?_; intro v2 w2 hown2 hgrow2 hnil2; rw [nsB_snoc] at hown2; obtain ⟨g2, c2, rfl, hge2, hgl2, _, _⟩ := own_madeC hown2 (by omega); have hX2 := HXp.out.kept hgrow2 ⟨hsp, own_someC (by omega)⟩; clear x9 x8 x12 x11; have x9 := (hX2.cell 9).trans (show _ = some (Value.int .u64 (z : Nat)) from rfl); have x8 := (hX2.cell 8).trans (show _ = some (Value.int .u64 (p : Nat)) from rfl); have x12 := (hX2.cell 12).trans (show _ = some (Value.int .u64 (o : Nat)) from rfl); have x11 := (hX2.cell 11).trans (show _ = some (Value.int .u32 (k : Nat)) from rfl))
  have HB2 : Hid (Below w.heap.size w w2) := HBp.out.grown hgrow2 (by omega) (fun q hq => by
    have e2 : some g1 = some q := hq
    injection e2 with e2
    omega)
  have HO2 := Lib.hid hown2
  have HX2 := Lib.hid hX2
  have hs2 : w.heap.size + 1 ≤ w2.heap.size := by omega
  clear hgrow2 hnil2 hown2 hX2 x9 x8 x12 x11 HBp HOp HXp HNp hsp hs
  refine (RPut4_c k hk64 _).mono ?_
  rintro e wp ⟨gp, cp, rfl, hownp, hbp⟩
  have HNp := Lib.hid (own_newsC hownp)
  have HOp := Lib.hid (own_below HO2.out hbp)
  have HBp := Lib.hid (HB2.out.trans (hbp.mono (Nat.le_trans (Nat.le_succ _) hs2)))
  have HXp := Lib.hid (HX2.out.below HX2.out.lt hbp)
  have hsp := HXp.out.lt
  have hs : w.heap.size + 1 ≤ wp.heap.size := Nat.le_trans hs2 hbp.size
  clear hbp hownp HO2 HB2 HX2 hs2
  have x9 := (HXp.out.cell 9).trans (show _ = some (Value.int .u64 (z : Nat)) from rfl)
  have x8 := (HXp.out.cell 8).trans (show _ = some (Value.int .u64 (p : Nat)) from rfl)
  have x12 := (HXp.out.cell 12).trans (show _ = some (Value.int .u64 (o : Nat)) from rfl)
  have x11 := (HXp.out.cell 11).trans (show _ = some (Value.int .u32 (k : Nat)) from rfl)
  go_wp2_with (at_builtin; refine wpList_append_own _ rfl _ _ 31 rfl (w.heap.size + 1) 5 i0 (.int .u8 0) 1 1 Tryd.underlying31 hi hz0 hz1 hz2 rfl (by decide) _ 16 (cs (nsB [(z, 8), (p, 8)])) rfl HOp.out ⟨gp, 0, none⟩ 4 cp (cs (putL k 4)) rfl (by rw [cs_length, putL_length]) HNp.out (cs_one _) (by unfold maxLen; omega) (by omega) hs ?_; intro v3 w3 hown3 hgrow3 hnil3; rw [nsB_snoc] at hown3; obtain ⟨g3, c3, rfl, hge3, hgl3, _, _⟩ := own_madeC hown3 (by omega); have hX3 := HXp.out.kept hgrow3 ⟨hsp, own_someC (by omega)⟩; clear x9 x8 x12 x11; have x9 := (hX3.cell 9).trans (show _ = some (Value.int .u64 (z : Nat)) from rfl); have x8 := (hX3.cell 8).trans (show _ = some (Value.int .u64 (p : Nat)) from rfl); have x12 := (hX3.cell 12).trans (show _ = some (Value.int .u64 (o : Nat)) from rfl); have x11 := (hX3.cell 11).trans (show _ = some (Value.int .u32 (k : Nat)) from rfl))
  have HB3 : Hid (Below w.heap.size w w3) := HBp.out.grown hgrow3 (by omega) (fun q hq => by
    have e2 : some g2 = some q := hq
    injection e2 with e2
    omega)
  have HO3 := Lib.hid hown3
  have HX3 := Lib.hid hX3
  have hs3 : w.heap.size + 1 ≤ w3.heap.size := by omega
  clear hgrow3 hnil3 hown3 hX3 x9 x8 x12 x11 HBp HOp HXp HNp hsp hs
  have ha1 := (Below.refl w3.heap.size w3).alloc (Nat.le_refl _) (.cells #[.int .u8 1, .int .u8 0, .int .u8 20, .int .u8 0] 5)
  have HR1 := Lib.hid (own_in (l := [ofN 1, ofN 0, ofN 20, ofN 0]) (World.ownsRow_lit (base := w3.heap.size) (e := 5) (size := 1) w3 #[.int .u8 1, .int .u8 0, .int .u8 20, .int .u8 0] 4 (Nat.le_refl _) (by unfold maxLen; omega) rfl))
  have HR2 := Lib.hid (own_in (own_below HO3.out ha1))
  have HBa := Lib.hid (HB3.out.trans (ha1.mono (by omega)))
  have hsa : w.heap.size ≤ (w3.alloc (.cells #[.int .u8 1, .int .u8 0, .int .u8 20, .int .u8 0] 5)).heap.size := HBa.out.size
  clear ha1
  refine (Join2C_c HR1.out HR2.out (by omega) (by omega) _ _ (by simp)).mono ?_
  rintro e wj ⟨E, N, cj, rfl, hownj, hN, hbj⟩
  obtain rfl : N = 24 := hN
  have HOj := Lib.hid hownj
  have HBj := Lib.hid (HBa.out.trans (hbj.mono hsa))
  clear hbj hownj
  go_wp2
  go_ret
  exact ⟨_, _, rfl, own_base2 HOj.out hsa, HBj.out⟩
set_option maxHeartbeats 2000000 in
theorem extra_12 {m y mo d hh mi s : Int} {sum p z k o : Nat} {nm : List UInt8} (hwz : z < two64) (hwp : p < two64) (hwo : o < two64) (hwk : k < 4294967296) (iz : decide ((4294967295 : Int) ≤ (z : Int)) = false) (ip : decide ((4294967295 : Int) ≤ (p : Int)) = false) (io : decide ((4294967295 : Int) ≤ (o : Int)) = true) (ik : decide ((65535 : Int) ≤ (k : Int)) = true) (w : World) :
    Calls Tryd.prog 28 #[.agg #[.int .i64 m, .int .i64 y, .int .i64 mo, .int .i64 d, .int .i64 hh, .int .i64 mi, .int .i64 s, .int .u32 sum, .int .u64 p, .int .u64 z, .string (S nm), .int .u32 k, .int .u64 o]] w fun e w' => ∃ A c', e = .returned (.slice A 16 c') ∧ w'.ownsRow w.heap.size 5 1 (.slice A 16 c') 16 (cs ([ofN 1, ofN 0, ofN 12, ofN 0] ++ nsB [(o, 8), (k, 4)])) ∧ Below w.heap.size w w' := by
  obtain ⟨i0, hi, hz0, hz1, hz2⟩ := info_parts info_u8
  have hk64 : k < two64 := by unfold two64; omega
  have hkw : IntKind.u64.wrap (k : Int) = (k : Int) := by rw [IntKind.wrap_u64]; omega
  have hb1 := (Below.refl w.heap.size w).alloc (Nat.le_refl _) (.cells #[.int .i64 m, .int .i64 y, .int .i64 mo, .int .i64 d, .int .i64 hh, .int .i64 mi, .int .i64 s, .int .u32 sum, .int .u64 p, .int .u64 z, .string (S nm), .int .u32 k, .int .u64 o] 39)
  have HB0 := Lib.hid (hb1.alloc (by simp) (.cells #[] 5))
  have HX0 : Hid (Blk ((w.alloc (.cells #[.int .i64 m, .int .i64 y, .int .i64 mo, .int .i64 d, .int .i64 hh, .int .i64 mi, .int .i64 s, .int .u32 sum, .int .u64 p, .int .u64 z, .string (S nm), .int .u32 k, .int .u64 o] 39)).alloc (.cells #[] 5)) w.heap.size 39 #[.int .i64 m, .int .i64 y, .int .i64 mo, .int .i64 d, .int .i64 hh, .int .i64 mi, .int .i64 s, .int .u32 sum, .int .u64 p, .int .u64 z, .string (S nm), .int .u32 k, .int .u64 o]) := (Blk.new w 39 #[.int .i64 m, .int .i64 y, .int .i64 mo, .int .i64 d, .int .i64 hh, .int .i64 mi, .int .i64 s, .int .u32 sum, .int .u64 p, .int .u64 z, .string (S nm), .int .u32 k, .int .u64 o]).below (Blk.new w 39 #[.int .i64 m, .int .i64 y, .int .i64 mo, .int .i64 d, .int .i64 hh, .int .i64 mi, .int .i64 s, .int .u32 sum, .int .u64 p, .int .u64 z, .string (S nm), .int .u32 k, .int .u64 o]).lt ((Below.refl _ _).alloc (Nat.le_refl _) _)
  have HO0 : Hid (((w.alloc (.cells #[.int .i64 m, .int .i64 y, .int .i64 mo, .int .i64 d, .int .i64 hh, .int .i64 mi, .int .i64 s, .int .u32 sum, .int .u64 p, .int .u64 z, .string (S nm), .int .u32 k, .int .u64 o] 39)).alloc (.cells #[] 5)).ownsRow (w.heap.size + 1) 5 1 (.slice (some ⟨w.heap.size + 1, 0, none⟩) 0 0) 0 (cs (nsB []))) := by
    have h := World.ownsRow_made (base := w.heap.size + 1) (e := 5) (size := 1) (w.alloc (.cells #[.int .i64 m, .int .i64 y, .int .i64 mo, .int .i64 d, .int .i64 hh, .int .i64 mi, .int .i64 s, .int .u32 sum, .int .u64 p, .int .u64 z, .string (S nm), .int .u32 k, .int .u64 o] 39)) #[] 0 (by simp) (Nat.zero_le _) rfl
    have e : (w.alloc (.cells #[.int .i64 m, .int .i64 y, .int .i64 mo, .int .i64 d, .int .i64 hh, .int .i64 mi, .int .i64 s, .int .u32 sum, .int .u64 p, .int .u64 z, .string (S nm), .int .u32 k, .int .u64 o] 39)).heap.size = w.heap.size + 1 := by simp
    rw [e] at h
    exact h
  have hge0 : w.heap.size + 1 ≤ w.heap.size + 1 := Nat.le_refl _
  have hs0 : w.heap.size + 1 ≤ ((w.alloc (.cells #[.int .i64 m, .int .i64 y, .int .i64 mo, .int .i64 d, .int .i64 hh, .int .i64 mi, .int .i64 s, .int .u32 sum, .int .u64 p, .int .u64 z, .string (S nm), .int .u32 k, .int .u64 o] 39)).alloc (.cells #[] 5)).heap.size := by simp
  clear hb1
  go_enter Tryd.func28, Tryd.ntmps28
  go_wp2_with fail
  refine (RPut8_c o hwo _).mono ?_
  rintro e wp ⟨gp, cp, rfl, hownp, hbp⟩
  have HNp := Lib.hid (own_newsC hownp)
  have HOp := Lib.hid (own_below HO0.out hbp)
  have HBp := Lib.hid (HB0.out.trans (hbp.mono (Nat.le_trans (Nat.le_succ _) hs0)))
  have HXp := Lib.hid (HX0.out.below HX0.out.lt hbp)
  have hsp := HXp.out.lt
  have hs : w.heap.size + 1 ≤ wp.heap.size := Nat.le_trans hs0 hbp.size
  clear hbp hownp HO0 HB0 HX0 hs0
  have x9 := (HXp.out.cell 9).trans (show _ = some (Value.int .u64 (z : Nat)) from rfl)
  have x8 := (HXp.out.cell 8).trans (show _ = some (Value.int .u64 (p : Nat)) from rfl)
  have x12 := (HXp.out.cell 12).trans (show _ = some (Value.int .u64 (o : Nat)) from rfl)
  have x11 := (HXp.out.cell 11).trans (show _ = some (Value.int .u32 (k : Nat)) from rfl)
  go_wp2_with (at_builtin; refine wpList_append_own _ rfl _ _ 31 rfl (w.heap.size + 1) 5 i0 (.int .u8 0) 1 1 Tryd.underlying31 hi hz0 hz1 hz2 rfl (by decide) _ 0 (cs (nsB [])) rfl HOp.out ⟨gp, 0, none⟩ 8 cp (cs (putL o 8)) rfl (by rw [cs_length, putL_length]) HNp.out (cs_one _) (by unfold maxLen; omega) (by omega) hs ?_; intro v1 w1 hown1 hgrow1 hnil1; rw [nsB_snoc] at hown1; obtain ⟨g1, c1, rfl, hge1, hgl1, _, _⟩ := own_madeC hown1 (by omega); have hX1 := HXp.out.kept hgrow1 ⟨hsp, own_someC (by omega)⟩; clear x9 x8 x12 x11; have x9 := (hX1.cell 9).trans (show _ = some (Value.int .u64 (z : Nat)) from rfl); have x8 := (hX1.cell 8).trans (show _ = some (Value.int .u64 (p : Nat)) from rfl); have x12 := (hX1.cell 12).trans (show _ = some (Value.int .u64 (o : Nat)) from rfl); have x11 := (hX1.cell 11).trans (show _ = some (Value.int .u32 (k : Nat)) from rfl))
  have HB1 : Hid (Below w.heap.size w w1) := HBp.out.grown hgrow1 (by omega) (fun q hq => by
    have e2 : some (w.heap.size + 1) = some q := hq
    injection e2 with e2
    omega)
  have HO1 := Lib.hid hown1
  have HX1 := Lib.hid hX1
  have hs1 : w.heap.size + 1 ≤ w1.heap.size := by omega
  clear hgrow1 hnil1 hown1 hX1 x9 x8 x12 x11 HBp HOp HXp HNp hsp hs
  refine (RPut4_c k hk64 _).mono ?_
  rintro e wp ⟨gp, cp, rfl, hownp, hbp⟩
  have HNp := Lib.hid (own_newsC hownp)
  have HOp := Lib.hid (own_below HO1.out hbp)
  have HBp := Lib.hid (HB1.out.trans (hbp.mono (Nat.le_trans (Nat.le_succ _) hs1)))
  have HXp := Lib.hid (HX1.out.below HX1.out.lt hbp)
  have hsp := HXp.out.lt
  have hs : w.heap.size + 1 ≤ wp.heap.size := Nat.le_trans hs1 hbp.size
  clear hbp hownp HO1 HB1 HX1 hs1
  have x9 := (HXp.out.cell 9).trans (show _ = some (Value.int .u64 (z : Nat)) from rfl)
  have x8 := (HXp.out.cell 8).trans (show _ = some (Value.int .u64 (p : Nat)) from rfl)
  have x12 := (HXp.out.cell 12).trans (show _ = some (Value.int .u64 (o : Nat)) from rfl)
  have x11 := (HXp.out.cell 11).trans (show _ = some (Value.int .u32 (k : Nat)) from rfl)
  go_wp2_with (at_builtin; refine wpList_append_own _ rfl _ _ 31 rfl (w.heap.size + 1) 5 i0 (.int .u8 0) 1 1 Tryd.underlying31 hi hz0 hz1 hz2 rfl (by decide) _ 8 (cs (nsB [(o, 8)])) rfl HOp.out ⟨gp, 0, none⟩ 4 cp (cs (putL k 4)) rfl (by rw [cs_length, putL_length]) HNp.out (cs_one _) (by unfold maxLen; omega) (by omega) hs ?_; intro v2 w2 hown2 hgrow2 hnil2; rw [nsB_snoc] at hown2; obtain ⟨g2, c2, rfl, hge2, hgl2, _, _⟩ := own_madeC hown2 (by omega); have hX2 := HXp.out.kept hgrow2 ⟨hsp, own_someC (by omega)⟩; clear x9 x8 x12 x11; have x9 := (hX2.cell 9).trans (show _ = some (Value.int .u64 (z : Nat)) from rfl); have x8 := (hX2.cell 8).trans (show _ = some (Value.int .u64 (p : Nat)) from rfl); have x12 := (hX2.cell 12).trans (show _ = some (Value.int .u64 (o : Nat)) from rfl); have x11 := (hX2.cell 11).trans (show _ = some (Value.int .u32 (k : Nat)) from rfl))
  have HB2 : Hid (Below w.heap.size w w2) := HBp.out.grown hgrow2 (by omega) (fun q hq => by
    have e2 : some g1 = some q := hq
    injection e2 with e2
    omega)
  have HO2 := Lib.hid hown2
  have HX2 := Lib.hid hX2
  have hs2 : w.heap.size + 1 ≤ w2.heap.size := by omega
  clear hgrow2 hnil2 hown2 hX2 x9 x8 x12 x11 HBp HOp HXp HNp hsp hs
  have ha1 := (Below.refl w2.heap.size w2).alloc (Nat.le_refl _) (.cells #[.int .u8 1, .int .u8 0, .int .u8 12, .int .u8 0] 5)
  have HR1 := Lib.hid (own_in (l := [ofN 1, ofN 0, ofN 12, ofN 0]) (World.ownsRow_lit (base := w2.heap.size) (e := 5) (size := 1) w2 #[.int .u8 1, .int .u8 0, .int .u8 12, .int .u8 0] 4 (Nat.le_refl _) (by unfold maxLen; omega) rfl))
  have HR2 := Lib.hid (own_in (own_below HO2.out ha1))
  have HBa := Lib.hid (HB2.out.trans (ha1.mono (by omega)))
  have hsa : w.heap.size ≤ (w2.alloc (.cells #[.int .u8 1, .int .u8 0, .int .u8 12, .int .u8 0] 5)).heap.size := HBa.out.size
  clear ha1
  refine (Join2C_c HR1.out HR2.out (by omega) (by omega) _ _ (by simp)).mono ?_
  rintro e wj ⟨E, N, cj, rfl, hownj, hN, hbj⟩
  obtain rfl : N = 16 := hN
  have HOj := Lib.hid hownj
  have HBj := Lib.hid (HBa.out.trans (hbj.mono hsa))
  clear hbj hownj
  go_wp2
  go_ret
  exact ⟨_, _, rfl, own_base2 HOj.out hsa, HBj.out⟩
set_option maxHeartbeats 2000000 in
theorem extra_13 {m y mo d hh mi s : Int} {sum p z k o : Nat} {nm : List UInt8} (hwz : z < two64) (hwp : p < two64) (hwo : o < two64) (hwk : k < 4294967296) (iz : decide ((4294967295 : Int) ≤ (z : Int)) = true) (ip : decide ((4294967295 : Int) ≤ (p : Int)) = false) (io : decide ((4294967295 : Int) ≤ (o : Int)) = true) (ik : decide ((65535 : Int) ≤ (k : Int)) = true) (w : World) :
    Calls Tryd.prog 28 #[.agg #[.int .i64 m, .int .i64 y, .int .i64 mo, .int .i64 d, .int .i64 hh, .int .i64 mi, .int .i64 s, .int .u32 sum, .int .u64 p, .int .u64 z, .string (S nm), .int .u32 k, .int .u64 o]] w fun e w' => ∃ A c', e = .returned (.slice A 24 c') ∧ w'.ownsRow w.heap.size 5 1 (.slice A 24 c') 24 (cs ([ofN 1, ofN 0, ofN 20, ofN 0] ++ nsB [(z, 8), (o, 8), (k, 4)])) ∧ Below w.heap.size w w' := by
  obtain ⟨i0, hi, hz0, hz1, hz2⟩ := info_parts info_u8
  have hk64 : k < two64 := by unfold two64; omega
  have hkw : IntKind.u64.wrap (k : Int) = (k : Int) := by rw [IntKind.wrap_u64]; omega
  have hb1 := (Below.refl w.heap.size w).alloc (Nat.le_refl _) (.cells #[.int .i64 m, .int .i64 y, .int .i64 mo, .int .i64 d, .int .i64 hh, .int .i64 mi, .int .i64 s, .int .u32 sum, .int .u64 p, .int .u64 z, .string (S nm), .int .u32 k, .int .u64 o] 39)
  have HB0 := Lib.hid (hb1.alloc (by simp) (.cells #[] 5))
  have HX0 : Hid (Blk ((w.alloc (.cells #[.int .i64 m, .int .i64 y, .int .i64 mo, .int .i64 d, .int .i64 hh, .int .i64 mi, .int .i64 s, .int .u32 sum, .int .u64 p, .int .u64 z, .string (S nm), .int .u32 k, .int .u64 o] 39)).alloc (.cells #[] 5)) w.heap.size 39 #[.int .i64 m, .int .i64 y, .int .i64 mo, .int .i64 d, .int .i64 hh, .int .i64 mi, .int .i64 s, .int .u32 sum, .int .u64 p, .int .u64 z, .string (S nm), .int .u32 k, .int .u64 o]) := (Blk.new w 39 #[.int .i64 m, .int .i64 y, .int .i64 mo, .int .i64 d, .int .i64 hh, .int .i64 mi, .int .i64 s, .int .u32 sum, .int .u64 p, .int .u64 z, .string (S nm), .int .u32 k, .int .u64 o]).below (Blk.new w 39 #[.int .i64 m, .int .i64 y, .int .i64 mo, .int .i64 d, .int .i64 hh, .int .i64 mi, .int .i64 s, .int .u32 sum, .int .u64 p, .int .u64 z, .string (S nm), .int .u32 k, .int .u64 o]).lt ((Below.refl _ _).alloc (Nat.le_refl _) _)
  have HO0 : Hid (((w.alloc (.cells #[.int .i64 m, .int .i64 y, .int .i64 mo, .int .i64 d, .int .i64 hh, .int .i64 mi, .int .i64 s, .int .u32 sum, .int .u64 p, .int .u64 z, .string (S nm), .int .u32 k, .int .u64 o] 39)).alloc (.cells #[] 5)).ownsRow (w.heap.size + 1) 5 1 (.slice (some ⟨w.heap.size + 1, 0, none⟩) 0 0) 0 (cs (nsB []))) := by
    have h := World.ownsRow_made (base := w.heap.size + 1) (e := 5) (size := 1) (w.alloc (.cells #[.int .i64 m, .int .i64 y, .int .i64 mo, .int .i64 d, .int .i64 hh, .int .i64 mi, .int .i64 s, .int .u32 sum, .int .u64 p, .int .u64 z, .string (S nm), .int .u32 k, .int .u64 o] 39)) #[] 0 (by simp) (Nat.zero_le _) rfl
    have e : (w.alloc (.cells #[.int .i64 m, .int .i64 y, .int .i64 mo, .int .i64 d, .int .i64 hh, .int .i64 mi, .int .i64 s, .int .u32 sum, .int .u64 p, .int .u64 z, .string (S nm), .int .u32 k, .int .u64 o] 39)).heap.size = w.heap.size + 1 := by simp
    rw [e] at h
    exact h
  have hge0 : w.heap.size + 1 ≤ w.heap.size + 1 := Nat.le_refl _
  have hs0 : w.heap.size + 1 ≤ ((w.alloc (.cells #[.int .i64 m, .int .i64 y, .int .i64 mo, .int .i64 d, .int .i64 hh, .int .i64 mi, .int .i64 s, .int .u32 sum, .int .u64 p, .int .u64 z, .string (S nm), .int .u32 k, .int .u64 o] 39)).alloc (.cells #[] 5)).heap.size := by simp
  clear hb1
  go_enter Tryd.func28, Tryd.ntmps28
  go_wp2_with fail
  refine (RPut8_c z hwz _).mono ?_
  rintro e wp ⟨gp, cp, rfl, hownp, hbp⟩
  have HNp := Lib.hid (own_newsC hownp)
  have HOp := Lib.hid (own_below HO0.out hbp)
  have HBp := Lib.hid (HB0.out.trans (hbp.mono (Nat.le_trans (Nat.le_succ _) hs0)))
  have HXp := Lib.hid (HX0.out.below HX0.out.lt hbp)
  have hsp := HXp.out.lt
  have hs : w.heap.size + 1 ≤ wp.heap.size := Nat.le_trans hs0 hbp.size
  clear hbp hownp HO0 HB0 HX0 hs0
  have x9 := (HXp.out.cell 9).trans (show _ = some (Value.int .u64 (z : Nat)) from rfl)
  have x8 := (HXp.out.cell 8).trans (show _ = some (Value.int .u64 (p : Nat)) from rfl)
  have x12 := (HXp.out.cell 12).trans (show _ = some (Value.int .u64 (o : Nat)) from rfl)
  have x11 := (HXp.out.cell 11).trans (show _ = some (Value.int .u32 (k : Nat)) from rfl)
  go_wp2_with (at_builtin; refine wpList_append_own _ rfl _ _ 31 rfl (w.heap.size + 1) 5 i0 (.int .u8 0) 1 1 Tryd.underlying31 hi hz0 hz1 hz2 rfl (by decide) _ 0 (cs (nsB [])) rfl HOp.out ⟨gp, 0, none⟩ 8 cp (cs (putL z 8)) rfl (by rw [cs_length, putL_length]) HNp.out (cs_one _) (by unfold maxLen; omega) (by omega) hs ?_; intro v1 w1 hown1 hgrow1 hnil1; rw [nsB_snoc] at hown1; obtain ⟨g1, c1, rfl, hge1, hgl1, _, _⟩ := own_madeC hown1 (by omega); have hX1 := HXp.out.kept hgrow1 ⟨hsp, own_someC (by omega)⟩; clear x9 x8 x12 x11; have x9 := (hX1.cell 9).trans (show _ = some (Value.int .u64 (z : Nat)) from rfl); have x8 := (hX1.cell 8).trans (show _ = some (Value.int .u64 (p : Nat)) from rfl); have x12 := (hX1.cell 12).trans (show _ = some (Value.int .u64 (o : Nat)) from rfl); have x11 := (hX1.cell 11).trans (show _ = some (Value.int .u32 (k : Nat)) from rfl))
  have HB1 : Hid (Below w.heap.size w w1) := HBp.out.grown hgrow1 (by omega) (fun q hq => by
    have e2 : some (w.heap.size + 1) = some q := hq
    injection e2 with e2
    omega)
  have HO1 := Lib.hid hown1
  have HX1 := Lib.hid hX1
  have hs1 : w.heap.size + 1 ≤ w1.heap.size := by omega
  clear hgrow1 hnil1 hown1 hX1 x9 x8 x12 x11 HBp HOp HXp HNp hsp hs
  refine (RPut8_c o hwo _).mono ?_
  rintro e wp ⟨gp, cp, rfl, hownp, hbp⟩
  have HNp := Lib.hid (own_newsC hownp)
  have HOp := Lib.hid (own_below HO1.out hbp)
  have HBp := Lib.hid (HB1.out.trans (hbp.mono (Nat.le_trans (Nat.le_succ _) hs1)))
  have HXp := Lib.hid (HX1.out.below HX1.out.lt hbp)
  have hsp := HXp.out.lt
  have hs : w.heap.size + 1 ≤ wp.heap.size := Nat.le_trans hs1 hbp.size
  clear hbp hownp HO1 HB1 HX1 hs1
  have x9 := (HXp.out.cell 9).trans (show _ = some (Value.int .u64 (z : Nat)) from rfl)
  have x8 := (HXp.out.cell 8).trans (show _ = some (Value.int .u64 (p : Nat)) from rfl)
  have x12 := (HXp.out.cell 12).trans (show _ = some (Value.int .u64 (o : Nat)) from rfl)
  have x11 := (HXp.out.cell 11).trans (show _ = some (Value.int .u32 (k : Nat)) from rfl)
  go_wp2_with (at_builtin; refine wpList_append_own _ rfl _ _ 31 rfl (w.heap.size + 1) 5 i0 (.int .u8 0) 1 1 Tryd.underlying31 hi hz0 hz1 hz2 rfl (by decide) _ 8 (cs (nsB [(z, 8)])) rfl HOp.out ⟨gp, 0, none⟩ 8 cp (cs (putL o 8)) rfl (by rw [cs_length, putL_length]) HNp.out (cs_one _) (by unfold maxLen; omega) (by omega) hs ?_; intro v2 w2 hown2 hgrow2 hnil2; rw [nsB_snoc] at hown2; obtain ⟨g2, c2, rfl, hge2, hgl2, _, _⟩ := own_madeC hown2 (by omega); have hX2 := HXp.out.kept hgrow2 ⟨hsp, own_someC (by omega)⟩; clear x9 x8 x12 x11; have x9 := (hX2.cell 9).trans (show _ = some (Value.int .u64 (z : Nat)) from rfl); have x8 := (hX2.cell 8).trans (show _ = some (Value.int .u64 (p : Nat)) from rfl); have x12 := (hX2.cell 12).trans (show _ = some (Value.int .u64 (o : Nat)) from rfl); have x11 := (hX2.cell 11).trans (show _ = some (Value.int .u32 (k : Nat)) from rfl))
  have HB2 : Hid (Below w.heap.size w w2) := HBp.out.grown hgrow2 (by omega) (fun q hq => by
    have e2 : some g1 = some q := hq
    injection e2 with e2
    omega)
  have HO2 := Lib.hid hown2
  have HX2 := Lib.hid hX2
  have hs2 : w.heap.size + 1 ≤ w2.heap.size := by omega
  clear hgrow2 hnil2 hown2 hX2 x9 x8 x12 x11 HBp HOp HXp HNp hsp hs
  refine (RPut4_c k hk64 _).mono ?_
  rintro e wp ⟨gp, cp, rfl, hownp, hbp⟩
  have HNp := Lib.hid (own_newsC hownp)
  have HOp := Lib.hid (own_below HO2.out hbp)
  have HBp := Lib.hid (HB2.out.trans (hbp.mono (Nat.le_trans (Nat.le_succ _) hs2)))
  have HXp := Lib.hid (HX2.out.below HX2.out.lt hbp)
  have hsp := HXp.out.lt
  have hs : w.heap.size + 1 ≤ wp.heap.size := Nat.le_trans hs2 hbp.size
  clear hbp hownp HO2 HB2 HX2 hs2
  have x9 := (HXp.out.cell 9).trans (show _ = some (Value.int .u64 (z : Nat)) from rfl)
  have x8 := (HXp.out.cell 8).trans (show _ = some (Value.int .u64 (p : Nat)) from rfl)
  have x12 := (HXp.out.cell 12).trans (show _ = some (Value.int .u64 (o : Nat)) from rfl)
  have x11 := (HXp.out.cell 11).trans (show _ = some (Value.int .u32 (k : Nat)) from rfl)
  go_wp2_with (at_builtin; refine wpList_append_own _ rfl _ _ 31 rfl (w.heap.size + 1) 5 i0 (.int .u8 0) 1 1 Tryd.underlying31 hi hz0 hz1 hz2 rfl (by decide) _ 16 (cs (nsB [(z, 8), (o, 8)])) rfl HOp.out ⟨gp, 0, none⟩ 4 cp (cs (putL k 4)) rfl (by rw [cs_length, putL_length]) HNp.out (cs_one _) (by unfold maxLen; omega) (by omega) hs ?_; intro v3 w3 hown3 hgrow3 hnil3; rw [nsB_snoc] at hown3; obtain ⟨g3, c3, rfl, hge3, hgl3, _, _⟩ := own_madeC hown3 (by omega); have hX3 := HXp.out.kept hgrow3 ⟨hsp, own_someC (by omega)⟩; clear x9 x8 x12 x11; have x9 := (hX3.cell 9).trans (show _ = some (Value.int .u64 (z : Nat)) from rfl); have x8 := (hX3.cell 8).trans (show _ = some (Value.int .u64 (p : Nat)) from rfl); have x12 := (hX3.cell 12).trans (show _ = some (Value.int .u64 (o : Nat)) from rfl); have x11 := (hX3.cell 11).trans (show _ = some (Value.int .u32 (k : Nat)) from rfl))
  have HB3 : Hid (Below w.heap.size w w3) := HBp.out.grown hgrow3 (by omega) (fun q hq => by
    have e2 : some g2 = some q := hq
    injection e2 with e2
    omega)
  have HO3 := Lib.hid hown3
  have HX3 := Lib.hid hX3
  have hs3 : w.heap.size + 1 ≤ w3.heap.size := by omega
  clear hgrow3 hnil3 hown3 hX3 x9 x8 x12 x11 HBp HOp HXp HNp hsp hs
  have ha1 := (Below.refl w3.heap.size w3).alloc (Nat.le_refl _) (.cells #[.int .u8 1, .int .u8 0, .int .u8 20, .int .u8 0] 5)
  have HR1 := Lib.hid (own_in (l := [ofN 1, ofN 0, ofN 20, ofN 0]) (World.ownsRow_lit (base := w3.heap.size) (e := 5) (size := 1) w3 #[.int .u8 1, .int .u8 0, .int .u8 20, .int .u8 0] 4 (Nat.le_refl _) (by unfold maxLen; omega) rfl))
  have HR2 := Lib.hid (own_in (own_below HO3.out ha1))
  have HBa := Lib.hid (HB3.out.trans (ha1.mono (by omega)))
  have hsa : w.heap.size ≤ (w3.alloc (.cells #[.int .u8 1, .int .u8 0, .int .u8 20, .int .u8 0] 5)).heap.size := HBa.out.size
  clear ha1
  refine (Join2C_c HR1.out HR2.out (by omega) (by omega) _ _ (by simp)).mono ?_
  rintro e wj ⟨E, N, cj, rfl, hownj, hN, hbj⟩
  obtain rfl : N = 24 := hN
  have HOj := Lib.hid hownj
  have HBj := Lib.hid (HBa.out.trans (hbj.mono hsa))
  clear hbj hownj
  go_wp2
  go_ret
  exact ⟨_, _, rfl, own_base2 HOj.out hsa, HBj.out⟩
set_option maxHeartbeats 2000000 in
theorem extra_14 {m y mo d hh mi s : Int} {sum p z k o : Nat} {nm : List UInt8} (hwz : z < two64) (hwp : p < two64) (hwo : o < two64) (hwk : k < 4294967296) (iz : decide ((4294967295 : Int) ≤ (z : Int)) = false) (ip : decide ((4294967295 : Int) ≤ (p : Int)) = true) (io : decide ((4294967295 : Int) ≤ (o : Int)) = true) (ik : decide ((65535 : Int) ≤ (k : Int)) = true) (w : World) :
    Calls Tryd.prog 28 #[.agg #[.int .i64 m, .int .i64 y, .int .i64 mo, .int .i64 d, .int .i64 hh, .int .i64 mi, .int .i64 s, .int .u32 sum, .int .u64 p, .int .u64 z, .string (S nm), .int .u32 k, .int .u64 o]] w fun e w' => ∃ A c', e = .returned (.slice A 24 c') ∧ w'.ownsRow w.heap.size 5 1 (.slice A 24 c') 24 (cs ([ofN 1, ofN 0, ofN 20, ofN 0] ++ nsB [(p, 8), (o, 8), (k, 4)])) ∧ Below w.heap.size w w' := by
  obtain ⟨i0, hi, hz0, hz1, hz2⟩ := info_parts info_u8
  have hk64 : k < two64 := by unfold two64; omega
  have hkw : IntKind.u64.wrap (k : Int) = (k : Int) := by rw [IntKind.wrap_u64]; omega
  have hb1 := (Below.refl w.heap.size w).alloc (Nat.le_refl _) (.cells #[.int .i64 m, .int .i64 y, .int .i64 mo, .int .i64 d, .int .i64 hh, .int .i64 mi, .int .i64 s, .int .u32 sum, .int .u64 p, .int .u64 z, .string (S nm), .int .u32 k, .int .u64 o] 39)
  have HB0 := Lib.hid (hb1.alloc (by simp) (.cells #[] 5))
  have HX0 : Hid (Blk ((w.alloc (.cells #[.int .i64 m, .int .i64 y, .int .i64 mo, .int .i64 d, .int .i64 hh, .int .i64 mi, .int .i64 s, .int .u32 sum, .int .u64 p, .int .u64 z, .string (S nm), .int .u32 k, .int .u64 o] 39)).alloc (.cells #[] 5)) w.heap.size 39 #[.int .i64 m, .int .i64 y, .int .i64 mo, .int .i64 d, .int .i64 hh, .int .i64 mi, .int .i64 s, .int .u32 sum, .int .u64 p, .int .u64 z, .string (S nm), .int .u32 k, .int .u64 o]) := (Blk.new w 39 #[.int .i64 m, .int .i64 y, .int .i64 mo, .int .i64 d, .int .i64 hh, .int .i64 mi, .int .i64 s, .int .u32 sum, .int .u64 p, .int .u64 z, .string (S nm), .int .u32 k, .int .u64 o]).below (Blk.new w 39 #[.int .i64 m, .int .i64 y, .int .i64 mo, .int .i64 d, .int .i64 hh, .int .i64 mi, .int .i64 s, .int .u32 sum, .int .u64 p, .int .u64 z, .string (S nm), .int .u32 k, .int .u64 o]).lt ((Below.refl _ _).alloc (Nat.le_refl _) _)
  have HO0 : Hid (((w.alloc (.cells #[.int .i64 m, .int .i64 y, .int .i64 mo, .int .i64 d, .int .i64 hh, .int .i64 mi, .int .i64 s, .int .u32 sum, .int .u64 p, .int .u64 z, .string (S nm), .int .u32 k, .int .u64 o] 39)).alloc (.cells #[] 5)).ownsRow (w.heap.size + 1) 5 1 (.slice (some ⟨w.heap.size + 1, 0, none⟩) 0 0) 0 (cs (nsB []))) := by
    have h := World.ownsRow_made (base := w.heap.size + 1) (e := 5) (size := 1) (w.alloc (.cells #[.int .i64 m, .int .i64 y, .int .i64 mo, .int .i64 d, .int .i64 hh, .int .i64 mi, .int .i64 s, .int .u32 sum, .int .u64 p, .int .u64 z, .string (S nm), .int .u32 k, .int .u64 o] 39)) #[] 0 (by simp) (Nat.zero_le _) rfl
    have e : (w.alloc (.cells #[.int .i64 m, .int .i64 y, .int .i64 mo, .int .i64 d, .int .i64 hh, .int .i64 mi, .int .i64 s, .int .u32 sum, .int .u64 p, .int .u64 z, .string (S nm), .int .u32 k, .int .u64 o] 39)).heap.size = w.heap.size + 1 := by simp
    rw [e] at h
    exact h
  have hge0 : w.heap.size + 1 ≤ w.heap.size + 1 := Nat.le_refl _
  have hs0 : w.heap.size + 1 ≤ ((w.alloc (.cells #[.int .i64 m, .int .i64 y, .int .i64 mo, .int .i64 d, .int .i64 hh, .int .i64 mi, .int .i64 s, .int .u32 sum, .int .u64 p, .int .u64 z, .string (S nm), .int .u32 k, .int .u64 o] 39)).alloc (.cells #[] 5)).heap.size := by simp
  clear hb1
  go_enter Tryd.func28, Tryd.ntmps28
  go_wp2_with fail
  refine (RPut8_c p hwp _).mono ?_
  rintro e wp ⟨gp, cp, rfl, hownp, hbp⟩
  have HNp := Lib.hid (own_newsC hownp)
  have HOp := Lib.hid (own_below HO0.out hbp)
  have HBp := Lib.hid (HB0.out.trans (hbp.mono (Nat.le_trans (Nat.le_succ _) hs0)))
  have HXp := Lib.hid (HX0.out.below HX0.out.lt hbp)
  have hsp := HXp.out.lt
  have hs : w.heap.size + 1 ≤ wp.heap.size := Nat.le_trans hs0 hbp.size
  clear hbp hownp HO0 HB0 HX0 hs0
  have x9 := (HXp.out.cell 9).trans (show _ = some (Value.int .u64 (z : Nat)) from rfl)
  have x8 := (HXp.out.cell 8).trans (show _ = some (Value.int .u64 (p : Nat)) from rfl)
  have x12 := (HXp.out.cell 12).trans (show _ = some (Value.int .u64 (o : Nat)) from rfl)
  have x11 := (HXp.out.cell 11).trans (show _ = some (Value.int .u32 (k : Nat)) from rfl)
  go_wp2_with (at_builtin; refine wpList_append_own _ rfl _ _ 31 rfl (w.heap.size + 1) 5 i0 (.int .u8 0) 1 1 Tryd.underlying31 hi hz0 hz1 hz2 rfl (by decide) _ 0 (cs (nsB [])) rfl HOp.out ⟨gp, 0, none⟩ 8 cp (cs (putL p 8)) rfl (by rw [cs_length, putL_length]) HNp.out (cs_one _) (by unfold maxLen; omega) (by omega) hs ?_; intro v1 w1 hown1 hgrow1 hnil1; rw [nsB_snoc] at hown1; obtain ⟨g1, c1, rfl, hge1, hgl1, _, _⟩ := own_madeC hown1 (by omega); have hX1 := HXp.out.kept hgrow1 ⟨hsp, own_someC (by omega)⟩; clear x9 x8 x12 x11; have x9 := (hX1.cell 9).trans (show _ = some (Value.int .u64 (z : Nat)) from rfl); have x8 := (hX1.cell 8).trans (show _ = some (Value.int .u64 (p : Nat)) from rfl); have x12 := (hX1.cell 12).trans (show _ = some (Value.int .u64 (o : Nat)) from rfl); have x11 := (hX1.cell 11).trans (show _ = some (Value.int .u32 (k : Nat)) from rfl))
  have HB1 : Hid (Below w.heap.size w w1) := HBp.out.grown hgrow1 (by omega) (fun q hq => by
    have e2 : some (w.heap.size + 1) = some q := hq
    injection e2 with e2
    omega)
  have HO1 := Lib.hid hown1
  have HX1 := Lib.hid hX1
  have hs1 : w.heap.size + 1 ≤ w1.heap.size := by omega
  clear hgrow1 hnil1 hown1 hX1 x9 x8 x12 x11 HBp HOp HXp HNp hsp hs
  refine (RPut8_c o hwo _).mono ?_
  rintro e wp ⟨gp, cp, rfl, hownp, hbp⟩
  have HNp := Lib.hid (own_newsC hownp)
  have HOp := Lib.hid (own_below HO1.out hbp)
  have HBp := Lib.hid (HB1.out.trans (hbp.mono (Nat.le_trans (Nat.le_succ _) hs1)))
  have HXp := Lib.hid (HX1.out.below HX1.out.lt hbp)
  have hsp := HXp.out.lt
  have hs : w.heap.size + 1 ≤ wp.heap.size := Nat.le_trans hs1 hbp.size
  clear hbp hownp HO1 HB1 HX1 hs1
  have x9 := (HXp.out.cell 9).trans (show _ = some (Value.int .u64 (z : Nat)) from rfl)
  have x8 := (HXp.out.cell 8).trans (show _ = some (Value.int .u64 (p : Nat)) from rfl)
  have x12 := (HXp.out.cell 12).trans (show _ = some (Value.int .u64 (o : Nat)) from rfl)
  have x11 := (HXp.out.cell 11).trans (show _ = some (Value.int .u32 (k : Nat)) from rfl)
  go_wp2_with (at_builtin; refine wpList_append_own _ rfl _ _ 31 rfl (w.heap.size + 1) 5 i0 (.int .u8 0) 1 1 Tryd.underlying31 hi hz0 hz1 hz2 rfl (by decide) _ 8 (cs (nsB [(p, 8)])) rfl HOp.out ⟨gp, 0, none⟩ 8 cp (cs (putL o 8)) rfl (by rw [cs_length, putL_length]) HNp.out (cs_one _) (by unfold maxLen; omega) (by omega) hs ?_; intro v2 w2 hown2 hgrow2 hnil2; rw [nsB_snoc] at hown2; obtain ⟨g2, c2, rfl, hge2, hgl2, _, _⟩ := own_madeC hown2 (by omega); have hX2 := HXp.out.kept hgrow2 ⟨hsp, own_someC (by omega)⟩; clear x9 x8 x12 x11; have x9 := (hX2.cell 9).trans (show _ = some (Value.int .u64 (z : Nat)) from rfl); have x8 := (hX2.cell 8).trans (show _ = some (Value.int .u64 (p : Nat)) from rfl); have x12 := (hX2.cell 12).trans (show _ = some (Value.int .u64 (o : Nat)) from rfl); have x11 := (hX2.cell 11).trans (show _ = some (Value.int .u32 (k : Nat)) from rfl))
  have HB2 : Hid (Below w.heap.size w w2) := HBp.out.grown hgrow2 (by omega) (fun q hq => by
    have e2 : some g1 = some q := hq
    injection e2 with e2
    omega)
  have HO2 := Lib.hid hown2
  have HX2 := Lib.hid hX2
  have hs2 : w.heap.size + 1 ≤ w2.heap.size := by omega
  clear hgrow2 hnil2 hown2 hX2 x9 x8 x12 x11 HBp HOp HXp HNp hsp hs
  refine (RPut4_c k hk64 _).mono ?_
  rintro e wp ⟨gp, cp, rfl, hownp, hbp⟩
  have HNp := Lib.hid (own_newsC hownp)
  have HOp := Lib.hid (own_below HO2.out hbp)
  have HBp := Lib.hid (HB2.out.trans (hbp.mono (Nat.le_trans (Nat.le_succ _) hs2)))
  have HXp := Lib.hid (HX2.out.below HX2.out.lt hbp)
  have hsp := HXp.out.lt
  have hs : w.heap.size + 1 ≤ wp.heap.size := Nat.le_trans hs2 hbp.size
  clear hbp hownp HO2 HB2 HX2 hs2
  have x9 := (HXp.out.cell 9).trans (show _ = some (Value.int .u64 (z : Nat)) from rfl)
  have x8 := (HXp.out.cell 8).trans (show _ = some (Value.int .u64 (p : Nat)) from rfl)
  have x12 := (HXp.out.cell 12).trans (show _ = some (Value.int .u64 (o : Nat)) from rfl)
  have x11 := (HXp.out.cell 11).trans (show _ = some (Value.int .u32 (k : Nat)) from rfl)
  go_wp2_with (at_builtin; refine wpList_append_own _ rfl _ _ 31 rfl (w.heap.size + 1) 5 i0 (.int .u8 0) 1 1 Tryd.underlying31 hi hz0 hz1 hz2 rfl (by decide) _ 16 (cs (nsB [(p, 8), (o, 8)])) rfl HOp.out ⟨gp, 0, none⟩ 4 cp (cs (putL k 4)) rfl (by rw [cs_length, putL_length]) HNp.out (cs_one _) (by unfold maxLen; omega) (by omega) hs ?_; intro v3 w3 hown3 hgrow3 hnil3; rw [nsB_snoc] at hown3; obtain ⟨g3, c3, rfl, hge3, hgl3, _, _⟩ := own_madeC hown3 (by omega); have hX3 := HXp.out.kept hgrow3 ⟨hsp, own_someC (by omega)⟩; clear x9 x8 x12 x11; have x9 := (hX3.cell 9).trans (show _ = some (Value.int .u64 (z : Nat)) from rfl); have x8 := (hX3.cell 8).trans (show _ = some (Value.int .u64 (p : Nat)) from rfl); have x12 := (hX3.cell 12).trans (show _ = some (Value.int .u64 (o : Nat)) from rfl); have x11 := (hX3.cell 11).trans (show _ = some (Value.int .u32 (k : Nat)) from rfl))
  have HB3 : Hid (Below w.heap.size w w3) := HBp.out.grown hgrow3 (by omega) (fun q hq => by
    have e2 : some g2 = some q := hq
    injection e2 with e2
    omega)
  have HO3 := Lib.hid hown3
  have HX3 := Lib.hid hX3
  have hs3 : w.heap.size + 1 ≤ w3.heap.size := by omega
  clear hgrow3 hnil3 hown3 hX3 x9 x8 x12 x11 HBp HOp HXp HNp hsp hs
  have ha1 := (Below.refl w3.heap.size w3).alloc (Nat.le_refl _) (.cells #[.int .u8 1, .int .u8 0, .int .u8 20, .int .u8 0] 5)
  have HR1 := Lib.hid (own_in (l := [ofN 1, ofN 0, ofN 20, ofN 0]) (World.ownsRow_lit (base := w3.heap.size) (e := 5) (size := 1) w3 #[.int .u8 1, .int .u8 0, .int .u8 20, .int .u8 0] 4 (Nat.le_refl _) (by unfold maxLen; omega) rfl))
  have HR2 := Lib.hid (own_in (own_below HO3.out ha1))
  have HBa := Lib.hid (HB3.out.trans (ha1.mono (by omega)))
  have hsa : w.heap.size ≤ (w3.alloc (.cells #[.int .u8 1, .int .u8 0, .int .u8 20, .int .u8 0] 5)).heap.size := HBa.out.size
  clear ha1
  refine (Join2C_c HR1.out HR2.out (by omega) (by omega) _ _ (by simp)).mono ?_
  rintro e wj ⟨E, N, cj, rfl, hownj, hN, hbj⟩
  obtain rfl : N = 24 := hN
  have HOj := Lib.hid hownj
  have HBj := Lib.hid (HBa.out.trans (hbj.mono hsa))
  clear hbj hownj
  go_wp2
  go_ret
  exact ⟨_, _, rfl, own_base2 HOj.out hsa, HBj.out⟩
set_option maxHeartbeats 2000000 in
theorem extra_15 {m y mo d hh mi s : Int} {sum p z k o : Nat} {nm : List UInt8} (hwz : z < two64) (hwp : p < two64) (hwo : o < two64) (hwk : k < 4294967296) (iz : decide ((4294967295 : Int) ≤ (z : Int)) = true) (ip : decide ((4294967295 : Int) ≤ (p : Int)) = true) (io : decide ((4294967295 : Int) ≤ (o : Int)) = true) (ik : decide ((65535 : Int) ≤ (k : Int)) = true) (w : World) :
    Calls Tryd.prog 28 #[.agg #[.int .i64 m, .int .i64 y, .int .i64 mo, .int .i64 d, .int .i64 hh, .int .i64 mi, .int .i64 s, .int .u32 sum, .int .u64 p, .int .u64 z, .string (S nm), .int .u32 k, .int .u64 o]] w fun e w' => ∃ A c', e = .returned (.slice A 32 c') ∧ w'.ownsRow w.heap.size 5 1 (.slice A 32 c') 32 (cs ([ofN 1, ofN 0, ofN 28, ofN 0] ++ nsB [(z, 8), (p, 8), (o, 8), (k, 4)])) ∧ Below w.heap.size w w' := by
  obtain ⟨i0, hi, hz0, hz1, hz2⟩ := info_parts info_u8
  have hk64 : k < two64 := by unfold two64; omega
  have hkw : IntKind.u64.wrap (k : Int) = (k : Int) := by rw [IntKind.wrap_u64]; omega
  have hb1 := (Below.refl w.heap.size w).alloc (Nat.le_refl _) (.cells #[.int .i64 m, .int .i64 y, .int .i64 mo, .int .i64 d, .int .i64 hh, .int .i64 mi, .int .i64 s, .int .u32 sum, .int .u64 p, .int .u64 z, .string (S nm), .int .u32 k, .int .u64 o] 39)
  have HB0 := Lib.hid (hb1.alloc (by simp) (.cells #[] 5))
  have HX0 : Hid (Blk ((w.alloc (.cells #[.int .i64 m, .int .i64 y, .int .i64 mo, .int .i64 d, .int .i64 hh, .int .i64 mi, .int .i64 s, .int .u32 sum, .int .u64 p, .int .u64 z, .string (S nm), .int .u32 k, .int .u64 o] 39)).alloc (.cells #[] 5)) w.heap.size 39 #[.int .i64 m, .int .i64 y, .int .i64 mo, .int .i64 d, .int .i64 hh, .int .i64 mi, .int .i64 s, .int .u32 sum, .int .u64 p, .int .u64 z, .string (S nm), .int .u32 k, .int .u64 o]) := (Blk.new w 39 #[.int .i64 m, .int .i64 y, .int .i64 mo, .int .i64 d, .int .i64 hh, .int .i64 mi, .int .i64 s, .int .u32 sum, .int .u64 p, .int .u64 z, .string (S nm), .int .u32 k, .int .u64 o]).below (Blk.new w 39 #[.int .i64 m, .int .i64 y, .int .i64 mo, .int .i64 d, .int .i64 hh, .int .i64 mi, .int .i64 s, .int .u32 sum, .int .u64 p, .int .u64 z, .string (S nm), .int .u32 k, .int .u64 o]).lt ((Below.refl _ _).alloc (Nat.le_refl _) _)
  have HO0 : Hid (((w.alloc (.cells #[.int .i64 m, .int .i64 y, .int .i64 mo, .int .i64 d, .int .i64 hh, .int .i64 mi, .int .i64 s, .int .u32 sum, .int .u64 p, .int .u64 z, .string (S nm), .int .u32 k, .int .u64 o] 39)).alloc (.cells #[] 5)).ownsRow (w.heap.size + 1) 5 1 (.slice (some ⟨w.heap.size + 1, 0, none⟩) 0 0) 0 (cs (nsB []))) := by
    have h := World.ownsRow_made (base := w.heap.size + 1) (e := 5) (size := 1) (w.alloc (.cells #[.int .i64 m, .int .i64 y, .int .i64 mo, .int .i64 d, .int .i64 hh, .int .i64 mi, .int .i64 s, .int .u32 sum, .int .u64 p, .int .u64 z, .string (S nm), .int .u32 k, .int .u64 o] 39)) #[] 0 (by simp) (Nat.zero_le _) rfl
    have e : (w.alloc (.cells #[.int .i64 m, .int .i64 y, .int .i64 mo, .int .i64 d, .int .i64 hh, .int .i64 mi, .int .i64 s, .int .u32 sum, .int .u64 p, .int .u64 z, .string (S nm), .int .u32 k, .int .u64 o] 39)).heap.size = w.heap.size + 1 := by simp
    rw [e] at h
    exact h
  have hge0 : w.heap.size + 1 ≤ w.heap.size + 1 := Nat.le_refl _
  have hs0 : w.heap.size + 1 ≤ ((w.alloc (.cells #[.int .i64 m, .int .i64 y, .int .i64 mo, .int .i64 d, .int .i64 hh, .int .i64 mi, .int .i64 s, .int .u32 sum, .int .u64 p, .int .u64 z, .string (S nm), .int .u32 k, .int .u64 o] 39)).alloc (.cells #[] 5)).heap.size := by simp
  clear hb1
  go_enter Tryd.func28, Tryd.ntmps28
  go_wp2_with fail
  refine (RPut8_c z hwz _).mono ?_
  rintro e wp ⟨gp, cp, rfl, hownp, hbp⟩
  have HNp := Lib.hid (own_newsC hownp)
  have HOp := Lib.hid (own_below HO0.out hbp)
  have HBp := Lib.hid (HB0.out.trans (hbp.mono (Nat.le_trans (Nat.le_succ _) hs0)))
  have HXp := Lib.hid (HX0.out.below HX0.out.lt hbp)
  have hsp := HXp.out.lt
  have hs : w.heap.size + 1 ≤ wp.heap.size := Nat.le_trans hs0 hbp.size
  clear hbp hownp HO0 HB0 HX0 hs0
  have x9 := (HXp.out.cell 9).trans (show _ = some (Value.int .u64 (z : Nat)) from rfl)
  have x8 := (HXp.out.cell 8).trans (show _ = some (Value.int .u64 (p : Nat)) from rfl)
  have x12 := (HXp.out.cell 12).trans (show _ = some (Value.int .u64 (o : Nat)) from rfl)
  have x11 := (HXp.out.cell 11).trans (show _ = some (Value.int .u32 (k : Nat)) from rfl)
  go_wp2_with (at_builtin; refine wpList_append_own _ rfl _ _ 31 rfl (w.heap.size + 1) 5 i0 (.int .u8 0) 1 1 Tryd.underlying31 hi hz0 hz1 hz2 rfl (by decide) _ 0 (cs (nsB [])) rfl HOp.out ⟨gp, 0, none⟩ 8 cp (cs (putL z 8)) rfl (by rw [cs_length, putL_length]) HNp.out (cs_one _) (by unfold maxLen; omega) (by omega) hs ?_; intro v1 w1 hown1 hgrow1 hnil1; rw [nsB_snoc] at hown1; obtain ⟨g1, c1, rfl, hge1, hgl1, _, _⟩ := own_madeC hown1 (by omega); have hX1 := HXp.out.kept hgrow1 ⟨hsp, own_someC (by omega)⟩; clear x9 x8 x12 x11; have x9 := (hX1.cell 9).trans (show _ = some (Value.int .u64 (z : Nat)) from rfl); have x8 := (hX1.cell 8).trans (show _ = some (Value.int .u64 (p : Nat)) from rfl); have x12 := (hX1.cell 12).trans (show _ = some (Value.int .u64 (o : Nat)) from rfl); have x11 := (hX1.cell 11).trans (show _ = some (Value.int .u32 (k : Nat)) from rfl))
  have HB1 : Hid (Below w.heap.size w w1) := HBp.out.grown hgrow1 (by omega) (fun q hq => by
    have e2 : some (w.heap.size + 1) = some q := hq
    injection e2 with e2
    omega)
  have HO1 := Lib.hid hown1
  have HX1 := Lib.hid hX1
  have hs1 : w.heap.size + 1 ≤ w1.heap.size := by omega
  clear hgrow1 hnil1 hown1 hX1 x9 x8 x12 x11 HBp HOp HXp HNp hsp hs
  refine (RPut8_c p hwp _).mono ?_
  rintro e wp ⟨gp, cp, rfl, hownp, hbp⟩
  have HNp := Lib.hid (own_newsC hownp)
  have HOp := Lib.hid (own_below HO1.out hbp)
  have HBp := Lib.hid (HB1.out.trans (hbp.mono (Nat.le_trans (Nat.le_succ _) hs1)))
  have HXp := Lib.hid (HX1.out.below HX1.out.lt hbp)
  have hsp := HXp.out.lt
  have hs : w.heap.size + 1 ≤ wp.heap.size := Nat.le_trans hs1 hbp.size
  clear hbp hownp HO1 HB1 HX1 hs1
  have x9 := (HXp.out.cell 9).trans (show _ = some (Value.int .u64 (z : Nat)) from rfl)
  have x8 := (HXp.out.cell 8).trans (show _ = some (Value.int .u64 (p : Nat)) from rfl)
  have x12 := (HXp.out.cell 12).trans (show _ = some (Value.int .u64 (o : Nat)) from rfl)
  have x11 := (HXp.out.cell 11).trans (show _ = some (Value.int .u32 (k : Nat)) from rfl)
  go_wp2_with (at_builtin; refine wpList_append_own _ rfl _ _ 31 rfl (w.heap.size + 1) 5 i0 (.int .u8 0) 1 1 Tryd.underlying31 hi hz0 hz1 hz2 rfl (by decide) _ 8 (cs (nsB [(z, 8)])) rfl HOp.out ⟨gp, 0, none⟩ 8 cp (cs (putL p 8)) rfl (by rw [cs_length, putL_length]) HNp.out (cs_one _) (by unfold maxLen; omega) (by omega) hs ?_; intro v2 w2 hown2 hgrow2 hnil2; rw [nsB_snoc] at hown2; obtain ⟨g2, c2, rfl, hge2, hgl2, _, _⟩ := own_madeC hown2 (by omega); have hX2 := HXp.out.kept hgrow2 ⟨hsp, own_someC (by omega)⟩; clear x9 x8 x12 x11; have x9 := (hX2.cell 9).trans (show _ = some (Value.int .u64 (z : Nat)) from rfl); have x8 := (hX2.cell 8).trans (show _ = some (Value.int .u64 (p : Nat)) from rfl); have x12 := (hX2.cell 12).trans (show _ = some (Value.int .u64 (o : Nat)) from rfl); have x11 := (hX2.cell 11).trans (show _ = some (Value.int .u32 (k : Nat)) from rfl))
  have HB2 : Hid (Below w.heap.size w w2) := HBp.out.grown hgrow2 (by omega) (fun q hq => by
    have e2 : some g1 = some q := hq
    injection e2 with e2
    omega)
  have HO2 := Lib.hid hown2
  have HX2 := Lib.hid hX2
  have hs2 : w.heap.size + 1 ≤ w2.heap.size := by omega
  clear hgrow2 hnil2 hown2 hX2 x9 x8 x12 x11 HBp HOp HXp HNp hsp hs
  refine (RPut8_c o hwo _).mono ?_
  rintro e wp ⟨gp, cp, rfl, hownp, hbp⟩
  have HNp := Lib.hid (own_newsC hownp)
  have HOp := Lib.hid (own_below HO2.out hbp)
  have HBp := Lib.hid (HB2.out.trans (hbp.mono (Nat.le_trans (Nat.le_succ _) hs2)))
  have HXp := Lib.hid (HX2.out.below HX2.out.lt hbp)
  have hsp := HXp.out.lt
  have hs : w.heap.size + 1 ≤ wp.heap.size := Nat.le_trans hs2 hbp.size
  clear hbp hownp HO2 HB2 HX2 hs2
  have x9 := (HXp.out.cell 9).trans (show _ = some (Value.int .u64 (z : Nat)) from rfl)
  have x8 := (HXp.out.cell 8).trans (show _ = some (Value.int .u64 (p : Nat)) from rfl)
  have x12 := (HXp.out.cell 12).trans (show _ = some (Value.int .u64 (o : Nat)) from rfl)
  have x11 := (HXp.out.cell 11).trans (show _ = some (Value.int .u32 (k : Nat)) from rfl)
  go_wp2_with (at_builtin; refine wpList_append_own _ rfl _ _ 31 rfl (w.heap.size + 1) 5 i0 (.int .u8 0) 1 1 Tryd.underlying31 hi hz0 hz1 hz2 rfl (by decide) _ 16 (cs (nsB [(z, 8), (p, 8)])) rfl HOp.out ⟨gp, 0, none⟩ 8 cp (cs (putL o 8)) rfl (by rw [cs_length, putL_length]) HNp.out (cs_one _) (by unfold maxLen; omega) (by omega) hs ?_; intro v3 w3 hown3 hgrow3 hnil3; rw [nsB_snoc] at hown3; obtain ⟨g3, c3, rfl, hge3, hgl3, _, _⟩ := own_madeC hown3 (by omega); have hX3 := HXp.out.kept hgrow3 ⟨hsp, own_someC (by omega)⟩; clear x9 x8 x12 x11; have x9 := (hX3.cell 9).trans (show _ = some (Value.int .u64 (z : Nat)) from rfl); have x8 := (hX3.cell 8).trans (show _ = some (Value.int .u64 (p : Nat)) from rfl); have x12 := (hX3.cell 12).trans (show _ = some (Value.int .u64 (o : Nat)) from rfl); have x11 := (hX3.cell 11).trans (show _ = some (Value.int .u32 (k : Nat)) from rfl))
  have HB3 : Hid (Below w.heap.size w w3) := HBp.out.grown hgrow3 (by omega) (fun q hq => by
    have e2 : some g2 = some q := hq
    injection e2 with e2
    omega)
  have HO3 := Lib.hid hown3
  have HX3 := Lib.hid hX3
  have hs3 : w.heap.size + 1 ≤ w3.heap.size := by omega
  clear hgrow3 hnil3 hown3 hX3 x9 x8 x12 x11 HBp HOp HXp HNp hsp hs
  refine (RPut4_c k hk64 _).mono ?_
  rintro e wp ⟨gp, cp, rfl, hownp, hbp⟩
  have HNp := Lib.hid (own_newsC hownp)
  have HOp := Lib.hid (own_below HO3.out hbp)
  have HBp := Lib.hid (HB3.out.trans (hbp.mono (Nat.le_trans (Nat.le_succ _) hs3)))
  have HXp := Lib.hid (HX3.out.below HX3.out.lt hbp)
  have hsp := HXp.out.lt
  have hs : w.heap.size + 1 ≤ wp.heap.size := Nat.le_trans hs3 hbp.size
  clear hbp hownp HO3 HB3 HX3 hs3
  have x9 := (HXp.out.cell 9).trans (show _ = some (Value.int .u64 (z : Nat)) from rfl)
  have x8 := (HXp.out.cell 8).trans (show _ = some (Value.int .u64 (p : Nat)) from rfl)
  have x12 := (HXp.out.cell 12).trans (show _ = some (Value.int .u64 (o : Nat)) from rfl)
  have x11 := (HXp.out.cell 11).trans (show _ = some (Value.int .u32 (k : Nat)) from rfl)
  go_wp2_with (at_builtin; refine wpList_append_own _ rfl _ _ 31 rfl (w.heap.size + 1) 5 i0 (.int .u8 0) 1 1 Tryd.underlying31 hi hz0 hz1 hz2 rfl (by decide) _ 24 (cs (nsB [(z, 8), (p, 8), (o, 8)])) rfl HOp.out ⟨gp, 0, none⟩ 4 cp (cs (putL k 4)) rfl (by rw [cs_length, putL_length]) HNp.out (cs_one _) (by unfold maxLen; omega) (by omega) hs ?_; intro v4 w4 hown4 hgrow4 hnil4; rw [nsB_snoc] at hown4; obtain ⟨g4, c4, rfl, hge4, hgl4, _, _⟩ := own_madeC hown4 (by omega); have hX4 := HXp.out.kept hgrow4 ⟨hsp, own_someC (by omega)⟩; clear x9 x8 x12 x11; have x9 := (hX4.cell 9).trans (show _ = some (Value.int .u64 (z : Nat)) from rfl); have x8 := (hX4.cell 8).trans (show _ = some (Value.int .u64 (p : Nat)) from rfl); have x12 := (hX4.cell 12).trans (show _ = some (Value.int .u64 (o : Nat)) from rfl); have x11 := (hX4.cell 11).trans (show _ = some (Value.int .u32 (k : Nat)) from rfl))
  have HB4 : Hid (Below w.heap.size w w4) := HBp.out.grown hgrow4 (by omega) (fun q hq => by
    have e2 : some g3 = some q := hq
    injection e2 with e2
    omega)
  have HO4 := Lib.hid hown4
  have HX4 := Lib.hid hX4
  have hs4 : w.heap.size + 1 ≤ w4.heap.size := by omega
  clear hgrow4 hnil4 hown4 hX4 x9 x8 x12 x11 HBp HOp HXp HNp hsp hs
  have ha1 := (Below.refl w4.heap.size w4).alloc (Nat.le_refl _) (.cells #[.int .u8 1, .int .u8 0, .int .u8 28, .int .u8 0] 5)
  have HR1 := Lib.hid (own_in (l := [ofN 1, ofN 0, ofN 28, ofN 0]) (World.ownsRow_lit (base := w4.heap.size) (e := 5) (size := 1) w4 #[.int .u8 1, .int .u8 0, .int .u8 28, .int .u8 0] 4 (Nat.le_refl _) (by unfold maxLen; omega) rfl))
  have HR2 := Lib.hid (own_in (own_below HO4.out ha1))
  have HBa := Lib.hid (HB4.out.trans (ha1.mono (by omega)))
  have hsa : w.heap.size ≤ (w4.alloc (.cells #[.int .u8 1, .int .u8 0, .int .u8 28, .int .u8 0] 5)).heap.size := HBa.out.size
  clear ha1
  refine (Join2C_c HR1.out HR2.out (by omega) (by omega) _ _ (by simp)).mono ?_
  rintro e wj ⟨E, N, cj, rfl, hownj, hN, hbj⟩
  obtain rfl : N = 32 := hN
  have HOj := Lib.hid hownj
  have HBj := Lib.hid (HBa.out.trans (hbj.mono hsa))
  clear hbj hownj
  go_wp2
  go_ret
  exact ⟨_, _, rfl, own_base2 HOj.out hsa, HBj.out⟩
end Go.Proofs.YtacllgglpjdobaaDoor
