/-
  STRIPES: what follows each bit of a byte, alone in its row: the program's bitRows. Rows of 1 to 255 bytes with what follows.
-/
import Derived.Test.YtbmkcnlcffnjgaaSrg
import Derived.Test.YtbmkcnlcffnjgaaSrp
import Derived.Test.YtbmkcnlcffnjgaaSys2
import Derived.Test.YtbmkcnlcffnjgaaMat
import Derived.Deep.OwnRows
namespace Go.Proofs.Ytbmkcnlcffnjgaa
open Go.RowKit
set_option maxRecDepth 100000
set_option linter.unusedVariables false

theorem RowV_ofIs23 {w : World} {b : Nat} {t : TypeId} {n : Nat} {f : Nat → Value} (h : w.rowIs b t n f) : RowV w b n f := by
  obtain ⟨c, hb, hn, hc⟩ := h
  exact ⟨c, t, hb, by omega, hc⟩
theorem oneBit {b P : Nat} (h1 : 1 ≤ P) (h : P ≤ 128) : (P : Int) % 256 = ((ofN P).n : Int) := by rw [ofN_n P (by omega)]; omega
set_option maxHeartbeats 4000000 in
theorem bitRows_c (w : World) (n i k : Nat) (hi : i < n) (hk : n + k ≤ 255) :
    Calls Try.prog 45 #[.int .i64 n, .int .i64 i, .int .i64 k] w fun e w' => ∃ (G : Nat → Nat) (B : Nat → List F), e = .returned (.agg (vs (fun b => .slice (some ⟨G b, 0, none⟩) k k) 8).toArray) ∧ (∀ b, b < 8 → w.heap.size ≤ G b ∧ Row w' (some ⟨G b, 0, none⟩) k (B b)) ∧ (∀ b, b < 8 → ∀ j, j < k → ParAt n (alone n i (ofN (2 ^ b))) j (gt (B b) j)) ∧ Below w.heap.size w w' := by
  have hz := zero_a8
  have hmk := run_make_row' (P := Try.prog) 22 5 (.int .u8 0) 1 Try.underlying22 info_u8 rfl .i64 .i64 n (by omega) (by omega)
  go_enter Try.func45, Try.ntmps45
  go_wp2
  go_loopw [10] (fun iv wr => ∃ b : Nat, b ≤ 8 ∧ iv = .int .i64 b ∧ ∃ (G : Nat → Nat) (B : Nat → List F), Blk wr (w.heap.size + 1) 66 (vs (fun c => if c < b then .slice (some ⟨G c, 0, none⟩) k k else .slice none 0 0) 8).toArray ∧ Blk wr w.heap.size 66 (vs (fun _ => .slice none 0 0) 8).toArray ∧
      Hid (∀ c, c < b → w.heap.size + 2 ≤ G c ∧ Row wr (some ⟨G c, 0, none⟩) k (B c) ∧ ∀ j, j < k → ParAt n (alone n i (ofN (2 ^ c))) j (gt (B c) j)) ∧ w.heap.size + 2 ≤ wr.heap.size ∧ Below w.heap.size w wr) (fun iv _ => 8 - (intOf iv).toNat)
  case atStart =>
    have hb3 : Below w.heap.size w ((w.alloc (.cells (vs (fun _ => .slice none 0 0) 8).toArray 66)).alloc (.cells (vs (fun _ => .slice none 0 0) 8).toArray 66)) := ((Below.refl _ _).alloc (Nat.le_refl _) _).alloc (by simp) _
    refine ⟨0, by omega, rfl, fun _ => 0, fun _ => [], ?_, ?_, fun c hc => by omega, by simp, hb3⟩
    · have h1 := Blk.new (w.alloc (.cells (vs (fun _ => .slice none 0 0) 8).toArray 66)) 66 (vs (fun _ => .slice none 0 0) 8).toArray
      rw [World.size_alloc] at h1
      exact h1
    · exact (Blk.new w _ _).below (by simp) ((Below.refl _ _).alloc (Nat.le_refl _) _)
  case round =>
    obtain ⟨b, hb8, rfl, G, B, hb1, hb2, hrow, hsz, hbel⟩ := hrel
    by_cases hlt : b < 8
    · have hbi : (b : Int) < 8 := by omega
      have hii : (i : Int) < (n : Int) := by omega
      obtain ⟨P, hP⟩ : ∃ P, P = 2 ^ b := ⟨_, rfl⟩
      obtain ⟨e1, e2, e3⟩ := pow_shl23 hlt hP
      have hq := oneBit (b := b) e2 e3
      have HP := Lib.hid hP
      obtain ⟨W1, hW1⟩ : ∃ W1, W1 = (wr.alloc (.cells (madeCells #[.int .u8 0] n) 5)) := ⟨_, rfl⟩
      have hV1 : RowV W1 wr.heap.size n (fun _ => .int .u8 0) := by rw [hW1]; exact RowV_ofIs23 (World.rowIs_made wr (.int .u8 0) n 5)
      have hV2 := hV1.set i (.int .u8 (ofN P).n)
      have hfz := hV1.frozen i
      have hcz := hV1.cell hi
      have hV3 : RowV (W1.setCell ⟨wr.heap.size, i, none⟩ (.int .u8 (ofN P).n)) wr.heap.size n (fun r => .int .u8 ((fun r => if r = i then ofN P else 0) r : F).n) := hV2.congr fun r hr => by
        by_cases e : r = i
        · subst e; rw [if_pos rfl]; show _ = Value.int .u8 ((if r = r then ofN P else 0 : F).n : Int); rw [if_pos rfl]
        · rw [if_neg e]; show _ = Value.int .u8 ((if r = i then ofN P else 0 : F).n : Int); rw [if_neg e]; rfl
      have hR3 : RowIn (W1.setCell ⟨wr.heap.size, i, none⟩ (.int .u8 (ofN P).n)) (some ⟨wr.heap.size, 0, none⟩) n n (alone n i (ofN P)) := ⟨by
        have h := hV3.row (by unfold maxLen; omega) (k := 0) (m := n) (by omega)
        simp only [Nat.zero_add] at h
        exact h, Nat.le_refl _, by unfold maxLen; omega⟩
      have hB2 : Below wr.heap.size wr (W1.setCell ⟨wr.heap.size, i, none⟩ (.int .u8 (ofN P).n)) := by rw [hW1]; exact ((Below.refl _ _).alloc (Nat.le_refl _) _).setCell (Nat.le_refl _) _
      have hE := Encode_ok (some ⟨wr.heap.size, 0, none⟩) n n k (alone n i (ofN P)) _ hR3 (by omega) hk
      have hPn : ((ofN P).n : Int) = (P : Int) := by rw [ofN_n P (by omega)]
      rw [hW1, World.setCell_alloc_new, hPn] at hE hB2
      have HE := Lib.hid hE
      have HB2 := Lib.hid hB2
      rw [hW1] at hcz hfz
      clear hP hV1 hV2 hV3 hR3 hE hB2 hW1 hPn
      go_wp2_with fail
      refine HE.out.mono ?_
      rintro e w5 ⟨g, T, rfl, hown, htell, hb5⟩
      have hB5 := HB2.out.trans (hb5.mono HB2.out.size)
      have hg5 : w.heap.size + 2 ≤ g := by have := (hown.lt g rfl).1; have := HB2.out.size; omega
      have hbk1 := hb1.below hb1.lt hB5
      have hbk2 := hb2.below hb2.lt hB5
      have hbel5 := hbel.trans (hB5.mono hbel.size)
      have hrowg := Row.of_own hown
      have hrow5 : Hid (∀ c, c < b → w.heap.size + 2 ≤ G c ∧ Row w5 (some ⟨G c, 0, none⟩) k (B c) ∧ ∀ j, j < k → ParAt n (alone n i (ofN (2 ^ c))) j (gt (B c) j)) := fun c hc => ⟨(hrow.out c hc).1, (hrow.out c hc).2.1.below hB5, (hrow.out c hc).2.2⟩
      have hpar : Hid (∀ j, j < k → ParAt n (alone n i (ofN (2 ^ b))) j (gt (vals T n k) j)) := fun j hj => by rw [← HP.out]; exact ParAt.of htell hj
      have hcb := hbk1.cell b
      rw [List.getElem?_toArray, vs_at _ (by omega)] at hcb
      have hfb := hbk1.frozen b
      have hst := Lib.hid (hbk1.set_ b (.slice (some ⟨g, 0, none⟩) k k))
      have hbk2' := Lib.hid (hbk2.setOther (a := Addr.mk (w.heap.size + 1) b none) (by simp) (.slice (some ⟨g, 0, none⟩) k k))
      have HBEL := Lib.hid (hbel5.setCell (p := Addr.mk (w.heap.size + 1) b none) (by simp) (.slice (some ⟨g, 0, none⟩) k k))
      have HRG := Lib.hid hrowg
      have hsz5 : w.heap.size + 2 ≤ w5.heap.size := by have := hB5.size; omega
      have HTL : Hid ((vals T n k).length = k) := by unfold Hid; rw [vals_length]
      clear hown htell hb5 hB5 hbk1 hbk2 hbel5 hrowg hb1 hb2 hrow hbel HB2 HE hcz hfz
      go_wp2
      go_roundw
      case rel =>
        have hk5 : ∀ {c : Nat} {l : List F}, w.heap.size + 2 ≤ c → Row w5 (some ⟨c, 0, none⟩) k l → Row (w5.setCell ⟨w.heap.size + 1, b, none⟩ (.slice (some ⟨g, 0, none⟩) k k)) (some ⟨c, 0, none⟩) k l := fun {c l} h1 h2 => h2.kept (setCell_grown _ _ _ _) (fun z e => by injection e with e; subst e; intro e2; injection e2 with e2; exact absurd e2 (by show w.heap.size + 1 ≠ c; omega))
        have h1 := hst.out
        rw [List.setIfInBounds_toArray, vs_set (g := fun c => if c < b + 1 then .slice (some ⟨(if c = b then g else G c), 0, none⟩) k k else .slice none 0 0) (fun c hc => by
          by_cases e : c = b
          · subst e; rw [if_pos (by omega), if_pos rfl, if_pos rfl]
          · rw [if_neg e, if_neg e]
            by_cases e2 : c < b
            · rw [if_pos (by omega), if_pos e2]
            · rw [if_neg (by omega), if_neg e2])] at h1
        refine ⟨b + 1, by omega, by go_num, fun c => if c = b then g else G c, fun c => if c = b then vals T n k else B c, h1, hbk2'.out, fun c hc => ?_, by simp [World.setCell]; exact hsz5, HBEL.out⟩
        by_cases e : c = b
        · subst e
          simp only [if_pos]
          exact ⟨hg5, hk5 hg5 HRG.out, hpar.out⟩
        · simp only [if_neg e]
          obtain ⟨q1, q2, q3⟩ := hrow5.out c (by omega)
          exact ⟨q1, hk5 q1 q2, q3⟩
      case measure => simp [intOf]; omega
    · obtain rfl : b = 8 := by omega
      have h8 : (vs (fun c => if c < 8 then Value.slice (some ⟨G c, 0, none⟩) k k else .slice none 0 0) 8) = vs (fun c => .slice (some ⟨G c, 0, none⟩) k k) 8 := vs_congr fun c hc => if_pos hc
      rw [h8] at hb1
      clear h8
      have hld1 := load_a8 wr (w.heap.size + 1) _ hb1
      have hst := storeCells_vs size_a8 wr w.heap.size _ (fun c => .slice (some ⟨G c, 0, none⟩) k k) (by rw [List.size_toArray, vs_length]) (fun i hi => rfl) hb2
      have hlen : (vs (fun c => Value.slice (some ⟨G c, 0, none⟩) k k) 8).length = 8 := vs_length _ _
      have hld2 := load_a8 _ w.heap.size _ (hb2.setRow (vs (fun c => Value.slice (some ⟨G c, 0, none⟩) k k) 8).toArray)
      have hbel2 := below_setRow hbel (g := w.heap.size) (Nat.le_refl _) (vs (fun c => Value.slice (some ⟨G c, 0, none⟩) k k) 8).toArray
      have hrows : ∀ c, c < 8 → w.heap.size ≤ G c ∧ Row (wr.setRow w.heap.size (vs (fun c => Value.slice (some ⟨G c, 0, none⟩) k k) 8).toArray) (some ⟨G c, 0, none⟩) k (B c) := fun c hc => ⟨by have := (hrow.out c hc).1; omega, (hrow.out c hc).2.1.kept (setRow_grown _ _ _) (fun z e => by injection e with e; subst e; intro e2; injection e2 with e2; exact absurd e2 (by have := (hrow.out c hc).1; show w.heap.size ≠ G c; omega))⟩
      have HRS := Lib.hid hrows
      clear hrows
      go_wp2_with ((with_reducible refine wpList_load_var (w.heap.size + 1) _ ?hp hld1 ?hK); case hp => rfl)
      refine bodyPost_ret (v := .agg (vs (fun c => Value.slice (some ⟨G c, 0, none⟩) k k) 8).toArray) ?_ rfl ⟨G, B, rfl, HRS.out, fun c hc => (hrow.out c hc).2.2, hbel2⟩
      rw [results_cell_one8 rfl]
      simp [asAddr, Result.andThen, hld2]
end Go.Proofs.Ytbmkcnlcffnjgaa
