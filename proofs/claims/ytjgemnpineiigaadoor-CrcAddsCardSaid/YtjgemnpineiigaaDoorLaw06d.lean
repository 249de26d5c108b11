/-
  LAW 06's WALKS, fourth part: CrcAdds: it returns true, and writes nothing that was there. No conditions but that the table lies as the program's text lays it.
-/
import Derived.Test.YtjgemnpineiigaaDoorLaw06c
namespace Go.Proofs.YtjgemnpineiigaaDoor
open Go.RowKit
set_option maxRecDepth 100000
set_option linter.unusedVariables false

def mx (l q : List F) (k : Nat) : List F := (List.range k).map fun i => gt l i + gt q i
theorem mx_succ (l q : List F) (k : Nat) : mx l q (k + 1) = mx l q k ++ [gt l k + gt q k] := by simp [mx, List.range_succ]
theorem gt_cons_succ (x : F) (l : List F) (i : Nat) : gt (x :: l) (i + 1) = gt l i := rfl
theorem mx_all (l q : List F) (h : q.length = l.length) : mx l q l.length = xrow l q := by
  induction l generalizing q with
  | nil => rfl
  | cons x l ih =>
    cases q with
    | nil => simp at h
    | cons y q =>
      show mx (x :: l) (y :: q) (l.length + 1) = (x + y) :: xrow l q
      rw [← ih q (by simpa using h)]
      unfold mx
      rw [List.range_succ_eq_map, List.map_cons, List.map_map]
      rfl
theorem byte0 (x : G) : (x.n : Int) % 256 = ((ofN (x.n % 256)).n : Int) := by rw [ofN_n _ (by omega)]; omega
theorem byte1 (x : G) : (x.n : Int) / 256 % 256 = ((ofN (x.n / 256 % 256)).n : Int) := by rw [ofN_n _ (by omega)]; omega
theorem byte2 (x : G) : (x.n : Int) / 65536 % 256 = ((ofN (x.n / 65536 % 256)).n : Int) := by rw [ofN_n _ (by omega)]; omega
theorem byte3 (x : G) : (x.n : Int) / 16777216 % 256 = ((ofN (x.n / 16777216 % 256)).n : Int) := by rw [ofN_n _ (by omega)]; omega
theorem Upd_behind (l : List F) (w : World) (ht : Tab w) : Calls Tryd.prog 9 #[.int .u32 (sum32 l).n, .slice (some ⟨w.heap.size, 0, none⟩) 4 4] (w.alloc (.cells #[.int .u8 (ofN ((sum32 l).n % 256)).n, .int .u8 (ofN ((sum32 l).n / 256 % 256)).n, .int .u8 (ofN ((sum32 l).n / 65536 % 256)).n, .int .u8 (ofN ((sum32 l).n / 16777216 % 256)).n] 5)) fun e w' =>
    e = .returned (.int .u32 (ofG 558161692).n) ∧ (w.alloc (.cells #[.int .u8 (ofN ((sum32 l).n % 256)).n, .int .u8 (ofN ((sum32 l).n / 256 % 256)).n, .int .u8 (ofN ((sum32 l).n / 65536 % 256)).n, .int .u8 (ofN ((sum32 l).n / 16777216 % 256)).n] 5)) = w' := by
  have h := Update_c (sum32 l) (some ⟨w.heap.size, 0, none⟩) 4 4 (le4 (sum32 l)) _ (ht.alloc (.cells #[.int .u8 (ofN ((sum32 l).n % 256)).n, .int .u8 (ofN ((sum32 l).n / 256 % 256)).n, .int .u8 (ofN ((sum32 l).n / 65536 % 256)).n, .int .u8 (ofN ((sum32 l).n / 16777216 % 256)).n] 5)) (row_lit6 w (le4 (sum32 l)) 4 _ rfl rfl (by unfold maxLen; show 4 ≤ 2 ^ 63 - 1; decide) _ rfl _ _)
  rw [sum_behind] at h
  exact h
set_option maxHeartbeats 4000000 in
theorem walk_CrcAdds (w : World) (ht : Tab w) (A : Option Addr) (n c : Nat) (l : List F) (ha : RowIn w A n c l) (B : Option Addr) (m d : Nat) (q : List F) (hb : RowIn w B m d q) :
    Calls Tryd.prog 6 #[.slice A n c, .slice B m d] w fun e w' => e = .returned (.bool true) ∧ Below w.heap.size w w' := by
  obtain ⟨i0, hi, hz0, hz1, hz2⟩ := info_parts info_u8c
  have hnm := ha.row.max
  have hmm := hb.row.max
  by_cases hn : (300 : Int) < n
  · go_enter Tryd.func6, Tryd.ntmps6
    go_wp2_with (go_at_call 8; refine (alive06_c _ ht).mono ?_; rintro e w1 ⟨rfl, hb1⟩)
    go_ret
    exact ⟨rfl, hb1⟩
  by_cases hmn : m = n
  · subst hmn
    have hneq : ((m : Int) != (m : Int)) = false := by simp
    have HL := Lib.hid ha.row.len
    have HQ := Lib.hid hb.row.len
    go_enter Tryd.func6, Tryd.ntmps6
    go_wp2_with (go_at_call 8; refine (alive06_c _ ht).mono ?_; rintro e w1 ⟨rfl, hb1⟩; have hs1 := hb1.size)
    go_loopw [5, 23] (fun v i wr => ∃ (k g x : Nat), k ≤ m ∧ i = .int .i64 k ∧ v = .slice (some ⟨g, 0, none⟩) k x ∧ wr.ownsRow w.heap.size 5 1 (.slice (some ⟨g, 0, none⟩) k x) k (cs (mx l q k)) ∧ Below w.heap.size w wr) (fun _ i _ => m - (intOf i).toNat)
    case atStart =>
      exact ⟨0, _, 0, by omega, rfl, rfl, World.ownsRow_made (e := 5) (size := 1) w1 #[] 0 hs1 (Nat.zero_le _) rfl, hb1.alloc hs1 _⟩
    case round =>
      clear hb1
      obtain ⟨k, g, x, hk, rfl, rfl, hown, hbel⟩ := hrel
      have hs0 := hbel.size
      by_cases hlt : k < m
      · have hkm : (k : Int) < m := by omega
        obtain ⟨b1, o1, rfl, l1, q1⟩ := ha.row.at_ hlt
        obtain ⟨b2, o2, rfl, l2, q2⟩ := hb.row.at_ hlt
        replace q1 := (hbel.cell (p := ⟨b1, o1 + k, none⟩) l1).trans q1
        replace q2 := (hbel.cell (p := ⟨b2, o2 + k, none⟩) l2).trans q2
        have hgl := (hown.lt g rfl)
        have ag1 : some b1 ≠ (Value.slice (some ⟨g, 0, none⟩) k x).ownBlock := fun e => by injection e with e; have e : b1 = g := e; omega
        have ag2 : some b2 ≠ (Value.slice (some ⟨g, 0, none⟩) k x).ownBlock := fun e => by injection e with e; have e : b2 = g := e; omega
        have lb1 : b1 < wr.heap.size := by omega
        have lb2 : b2 < wr.heap.size := by omega
        have hx : bits BinOp.xor IntKind.u8 ((gt l k).n : Int) ((gt q k).n : Int) = ((gt l k + gt q k).n : Int) := by rw [u8_xor_nat _ _ (F.lt _) (F.lt _), add_n]
        have hmx := Lib.hid (mx_succ l q k)
        go_wp2
        go_region_held3 (fun w' => w'.cell? ⟨b1, o1 + k, none⟩ = some (.int .u8 (gt l k).n) ∧ w'.cell? ⟨b2, o2 + k, none⟩ = some (.int .u8 (gt q k).n))
          (first
            | go_keep
            | (go_split_ands
               refine ⟨?_, ?_⟩
               · (rw [hgrow.cell_far _ (by simp; omega) ag1]; assumption)
               · (rw [hgrow.cell_far _ (by simp; omega) ag2]; assumption)))
          ((refine step_append_lies _ (by rfl) _ _ _ (by rfl) w.heap.size 5 i0 _ 1 1 Tryd.underlying23 hi hz0 hz1 hz2 rfl (by omega) (.slice (some ⟨g, 0, none⟩) k x) k (cs (mx l q k)) (by rfl) ((hown.alloc _).drew)
              ⟨wr.heap.size, 0, none⟩ 1 1 [.int .u8 (gt l k + gt q k).n] (by rfl) (by rfl) (World.news_of_block (cs := #[.int .u8 (gt l k + gt q k).n]) (t := 5) (fr := (0, 0)) (heap_alloc_new wr _)) (by simp [Value.oneCell'])
              (by omega) (by unfold maxLen; omega) (by omega) (by simp; omega) (wr.heap.size + 1) (by simp) ?_; intro gg cap w5 hown5 hgrow hat hlt5))
        go_wp2
        go_roundw
        case rel =>
          refine ⟨k + 1, _, cap, by omega, by go_num, rfl, ?_, ((hbel.alloc hs0 _).drew).grown hgrow (by simp; omega) (fun g hg => (hown.lt g hg).1)⟩
          rw [hmx.out, cs_append]
          exact hown5
        case measure => simp [intOf]; omega
      · obtain rfl : k = m := by omega
        have hxr : Hid (mx l q k = xrow l q) := by
          unfold Hid
          have h := mx_all l q (by rw [HL.out, HQ.out])
          rw [HL.out] at h
          exact h
        rw [hxr.out] at hown
        have HSm : Hid (∀ W, Below wr.heap.size wr W → Calls Tryd.prog 11 #[.slice (some ⟨g, 0, none⟩) k x] W fun e w' => e = .returned (.int .u32 (sum32 (xrow l q)).n) ∧ W = w') := fun W hW => Sum_c _ _ _ _ W ((ht.below hbel rfl).below hW rfl) ((Row.of_own hown).below hW)
        have HSa : Hid (∀ W, Below wr.heap.size wr W → Calls Tryd.prog 11 #[.slice A k c] W fun e w' => e = .returned (.int .u32 (sum32 l).n) ∧ W = w') := fun W hW => Sum_c _ _ _ _ W ((ht.below hbel rfl).below hW rfl) ((ha.row.below hbel).below hW)
        have HSb : Hid (∀ W, Below wr.heap.size wr W → Calls Tryd.prog 11 #[.slice B k d] W fun e w' => e = .returned (.int .u32 (sum32 q).n) ∧ W = w') := fun W hW => Sum_c _ _ _ _ W ((ht.below hbel rfl).below hW rfl) ((hb.row.below hbel).below hW)
        have hx1 := gxor_G (sum32 l) (sum32 q)
        have hx2 : bits BinOp.xor IntKind.u32 ((sum32 l + sum32 q).n : Int) ((sum32 (List.replicate k 0)).n : Int) = ((sum32 (xrow l q)).n : Int) := by
          rw [gxor_G]
          have h := sum_adds l q (by rw [HL.out, HQ.out])
          rw [HL.out] at h
          rw [h]
        obtain ⟨w5, hrun0, hown5, hg5⟩ := run_make_full (P := Tryd.prog) wr.drew w.heap.size 23 5 i0 (.int .u8 0) 1 Tryd.underlying23 hi hz0 hz1 .i64 .i64 k (by rw [hz2]; omega) (by unfold maxLen; omega) hs0
        have hrun : Sem.run Tryd.prog (Instr.makeSlice 23 (.int .i64 (k : Int)) (.int .i64 (k : Int))) wr.drew = .ok (.slice (some ⟨wr.heap.size, 0, none⟩) k k) w5 := hrun0
        rw [made6] at hown5
        have hr5 := Row.of_own hown5
        have hbM : Below wr.heap.size wr w5 := (below_drewN (Below.refl _ _) 1).grown hg5 (Nat.le_refl _) (fun x hx => by cases hx)
        have hb0 : Below wr.heap.size wr wr.drew := below_drewN (Below.refl _ _) 1
        have ht5 := (ht.below hbel rfl).below hbM rfl
        have hb5 := hbel.trans (hbM.mono hs0)
        have HSz : Hid (Calls Tryd.prog 11 #[.slice (some ⟨wr.heap.size, 0, none⟩) k k] w5 fun e w' => e = .returned (.int .u32 (sum32 (List.replicate k 0)).n) ∧ w5 = w') := Sum_c _ _ _ _ w5 ht5 hr5
        have HSa5 := Lib.hid (HSa.out w5 hbM)
        have hc0 := byte0 (sum32 l)
        have hc1 := byte1 (sum32 l)
        have hc2 := byte2 (sum32 l)
        have hc3 := byte3 (sum32 l)
        have hconst : (((ofG 558161692).n : Int) == 558161692) = true := by decide +kernel
        have HUB := Lib.hid (Upd_behind l w5 ht5)
        clear hrun0 hown5 hg5 hown hxr
        go_wp2
        go_region_held3 (fun _ => True)
          (trivial)
          (first
            | (go_at_call 11; (with_reducible refine (HSm.out _ (by first | exact hb0 | exact hbM)).mono ?_); rintro e w' ⟨rfl, rfl⟩)
            | (go_at_call 11; (with_reducible refine (HSa.out _ (by first | exact hb0 | exact hbM)).mono ?_); rintro e w' ⟨rfl, rfl⟩)
            | (go_at_call 11; (with_reducible refine (HSb.out _ (by first | exact hb0 | exact hbM)).mono ?_); rintro e w' ⟨rfl, rfl⟩)
            | (go_at_call 11; (with_reducible refine HSz.out.mono ?_); rintro e w' ⟨rfl, rfl⟩))
        all_goals
          go_wp2_with (first
            | (go_at_call 11; (with_reducible refine HSa5.out.mono ?_); rintro e w' ⟨rfl, rfl⟩)
            | (go_at_call 9; (with_reducible refine HUB.out.mono ?_); rintro e w' ⟨rfl, rfl⟩))
          go_ret
          exact ⟨rfl, hb5.alloc hb5.size _⟩
  · have hneq : ((m : Int) != (n : Int)) = true := by rw [bne_iff_ne]; omega
    clear hmn
    go_enter Tryd.func6, Tryd.ntmps6
    go_wp2_with (go_at_call 8; refine (alive06_c _ ht).mono ?_; rintro e w1 ⟨rfl, hb1⟩)
    go_ret
    exact ⟨rfl, hb1⟩
end Go.Proofs.YtjgemnpineiigaaDoor
