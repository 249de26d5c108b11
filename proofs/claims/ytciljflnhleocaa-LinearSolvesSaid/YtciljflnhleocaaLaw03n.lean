/-
  LAW 03: LinearSolves: the document's own Join and Solve, and the walk: it returns true, and writes nothing that was there. No conditions.
-/
import Derived.Test.YtciljflnhleocaaLaw03i
import Derived.Laws.AppendOwnNone
import Derived.Test.YtciljflnhleocaaLaw03l
import Derived.Deep.RegionHeld3
namespace Go.Proofs.Ytciljflnhleocaa
open Go.RowKit
set_option maxRecDepth 100000
set_option linter.unusedVariables false

/-- the first k rows, one behind the other -/
def joinTo (R : Nat → List F) : Nat → List F
  | 0 => []
  | k + 1 => joinTo R k ++ R k
def lenTo (RL : Nat → Nat) : Nat → Nat
  | 0 => 0
  | k + 1 => lenTo RL k + RL k
theorem lenTo_le {RL : Nat → Nat} {n b : Nat} (h : ∀ r, r < n → RL r ≤ b) : ∀ k, k ≤ n → lenTo RL k ≤ k * b
  | 0, _ => by simp [lenTo]
  | k + 1, hk => by
    have h1 := lenTo_le h k (by omega)
    have h2 := h k (by omega)
    show lenTo RL k + RL k ≤ (k + 1) * b
    rw [Nat.add_mul, Nat.one_mul]
    omega
set_option maxHeartbeats 1000000 in
theorem Join_c {w : World} {A : Option Addr} {n cap : Nat} {RA : Nat → Option Addr} {RL RC : Nat → Nat} {R : Nat → List F} (h : MIn w A n cap RA RL RC R) (hn : n ≤ 1048576) (hl : ∀ r, r < n → RL r ≤ 1048576) :
    Calls Try.prog 47 #[.slice A n cap] w fun e w' => ∃ g c, e = .returned (.slice (some ⟨g, 0, none⟩) (lenTo RL n) c) ∧ w'.ownsRow w.heap.size 5 1 (.slice (some ⟨g, 0, none⟩) (lenTo RL n) c) (lenTo RL n) (cs (joinTo R n)) ∧ Below w.heap.size w w' := by
  obtain ⟨i0, hi, hz0, hz1, hz2⟩ := info_parts info_u8
  have HL := Lib.hid hl
  clear hl
  go_enter Try.func47, Try.ntmps47
  go_wp2
  go_loopw [3, 4] (fun vs i wr => ∃ (k t g c : Nat), k ≤ n ∧ i = .int .i64 k ∧ Hid (t = lenTo RL k) ∧ vs = .slice (some ⟨g, 0, none⟩) t c ∧ wr.ownsRow w.heap.size 5 1 (.slice (some ⟨g, 0, none⟩) t c) t (cs (joinTo R k)) ∧ Below w.heap.size w wr) (fun _ i _ => n - (intOf i).toNat)
  case atStart => exact ⟨0, 0, _, 0, by omega, rfl, rfl, rfl, World.ownsRow_made (e := 5) (size := 1) w #[] 0 (Nat.le_refl _) (Nat.zero_le _) rfl, (Below.refl _ _).alloc (Nat.le_refl _) _⟩
  case round =>
    obtain ⟨k, t, g, c, hk, rfl, ht, rfl, hown, hbel⟩ := hrel
    by_cases hlt : k < n
    · have hkn : (k : Int) < n := by omega
      have h2 := h.below hbel
      obtain ⟨b1, o1, rfl, _, q1⟩ := h2.at_ hlt
      have hrow := (h2.row k hlt).row
      have hlk := HL.out k hlt
      have htb : t ≤ 1099511627776 := by
        have h1 := lenTo_le HL.out k hk
        rw [ht.out]
        have h3 : k * 1048576 ≤ 1048576 * 1048576 := Nat.mul_le_mul_right _ (by omega)
        omega
      have hbs := hbel.size
      have hnext : Hid (lenTo RL (k + 1) = t + RL k) := by unfold Hid; rw [ht.out]; rfl
      have hlen := hrow.len
      cases hA : RA k with
      | none =>
        rw [hA] at q1 hrow
        obtain ⟨e1, e2⟩ := hrow.none_nil
        rw [e1] at q1
        have hn2 : Hid (lenTo RL (k + 1) = t) := by unfold Hid; rw [hnext.out, e1]; rfl
        have hj2 : Hid (joinTo R (k + 1) = joinTo R k) := by
          show joinTo R k ++ R k = _
          rw [e2, List.append_nil]
        have hcap := own_cap hown
        clear e1 e2 hnext hlen hrow h2 hA
        go_wp2
        go_roundw
        case rel => exact ⟨k + 1, t, g, c, by omega, by go_num, hn2.out.symm, rfl, by rw [hj2.out]; exact hown, hbel⟩
        case measure => simp [intOf]; omega
      | some ad =>
        rw [hA] at q1 hrow
        have HC := Lib.hid hrow.cells
        have HLEN := Lib.hid hlen
        clear hlen h2 hA
        go_wp2_with (at_builtin; refine wpList_append_own _ rfl (.tmp 12) (.tmp 16) 23 rfl w.heap.size 5 i0 (.int .u8 0) 1 1 Try.underlying23 hi hz0 hz1 hz2 rfl (by decide) (.slice (some ⟨g, 0, none⟩) t c) t (cs (joinTo R k)) rfl hown ad (RL k) (RC k) (cs (R k)) rfl (by rw [cs_length, HLEN.out, Nat.mul_one]) HC.out (cs_one _) (by unfold maxLen; omega) (by omega) hbs ?_; intro v4 w4 hown4 hg4 hnil4)
        have hsome : ∃ g4 c4, v4 = .slice (some ⟨g4, 0, none⟩) (t + RL k) c4 := by
          rcases hown4.2 with ⟨hv, _⟩ | ⟨g4, c4, cur, hv, _⟩
          · have := (hnil4.1 hv).1
            injection this with this
            cases this
          · exact ⟨g4, c4, hv⟩
        obtain ⟨g4, c4, rfl⟩ := hsome
        rw [← cs_append] at hown4
        have hb4 := hbel.grown hg4 hbs (fun x hx => (hown.lt x hx).1)
        clear hown hbel hg4 hnil4
        go_wp2
        go_roundw
        case rel => exact ⟨k + 1, _, g4, c4, by omega, by go_num, hnext.out.symm, rfl, hown4, hb4⟩
        case measure => simp [intOf]; omega
    · obtain rfl : k = n := by omega
      go_wp2
      go_ret
      rw [← ht.out]
      exact ⟨g, c, rfl, hown, hbel⟩

/-- a row, and a byte behind it -/
theorem two_in {w : World} {H : Nat} {ad : Option Addr} {n c : Nat} {l : List F} {x : F} (hrow : RowIn w ad n c l) (hx : w.cell? ⟨H, 0, none⟩ = some (.int .u8 x.n)) (o : Obj) (T : TypeId)
    (ho : o = .cells #[.slice ad n c, .slice (some ⟨H, 0, none⟩) 1 1] T) :
    MIn (w.alloc o) (some ⟨w.heap.size, 0, none⟩) 2 2 (fun r => if r = 0 then ad else some ⟨H, 0, none⟩) (fun r => if r = 0 then n else 1) (fun r => if r = 0 then c else 1) (fun r => if r = 0 then l else [x]) := by
  have hb : Below w.heap.size w (w.alloc o) := (Below.refl _ _).alloc (Nat.le_refl _) _
  refine ⟨Nat.le_refl _, by unfold maxLen; omega, fun _ => ⟨_, 0, rfl, by simp, fun r hr => ?_⟩, fun r hr => ?_⟩
  · subst ho
    rw [Nat.zero_add]
    have h0 : (w.alloc (.cells #[.slice ad n c, .slice (some ⟨H, 0, none⟩) 1 1] T)).heap[w.heap.size]? = some (.cells #[.slice ad n c, .slice (some ⟨H, 0, none⟩) 1 1] T (0, 0)) := heap_alloc_new w _
    rw [cell_of_row _ _ _ _ _ (0, 0) h0]
    rcases (show r = 0 ∨ r = 1 by omega) with rfl | rfl
    · rfl
    · rfl
  · rcases (show r = 0 ∨ r = 1 by omega) with rfl | rfl
    · exact hrow.below hb
    · have hlt := World.block_lt_of_cell? w _ hx
      show RowIn _ (some ⟨H, 0, none⟩) 1 1 [x]
      refine ⟨⟨rfl, by unfold maxLen; decide, fun _ => ⟨H, 0, rfl, by simp; exact Nat.lt_succ_of_lt hlt, fun i hi => ?_⟩⟩, Nat.le_refl _, by unfold maxLen; decide⟩
      obtain rfl : i = 0 := by omega
      rw [Nat.add_zero, hb.cell (p := ⟨H, 0, none⟩) hlt, hx]
      rfl
theorem lenTo_two (n : Nat) : lenTo (fun r => if r = 0 then n else 1) 2 = n + 1 := by simp [lenTo]
theorem joinTo_two (l : List F) (x : F) : joinTo (fun r => if r = 0 then l else [x]) 2 = l ++ [x] := by simp [joinTo]
theorem Join_two {wr : World} {ad : Option Addr} {L c : Nat} {l : List F} {x : F} (hrow : RowIn wr ad L c l) (hL : L ≤ 1000000) :
    Calls Try.prog 47 #[.slice (some ⟨wr.heap.size + 1, 0, none⟩) 2 2] ((wr.alloc (.cells #[.int .u8 x.n] 5)).alloc (.cells #[.slice ad L c, .slice (some ⟨wr.heap.size, 0, none⟩) 1 1] 23)).drew fun e w' =>
      ∃ g c', e = .returned (.slice (some ⟨g, 0, none⟩) (L + 1) c') ∧ w'.ownsRow wr.heap.size 5 1 (.slice (some ⟨g, 0, none⟩) (L + 1) c') (L + 1) (cs (l ++ [x])) ∧ Below wr.heap.size wr w' := by
  have h0 : (wr.alloc (.cells #[.int .u8 x.n] 5)).cell? ⟨wr.heap.size, 0, none⟩ = some (.int .u8 x.n) := (Blk.new wr 5 #[.int .u8 x.n]).cell 0
  have h1 := (two_in (w := wr.alloc (.cells #[.int .u8 x.n] 5)) (hrow.below ((Below.refl _ wr).alloc (Nat.le_refl _) _)) (x := x) (H := wr.heap.size) h0 (.cells #[.slice ad L c, .slice (some ⟨wr.heap.size, 0, none⟩) 1 1] 23) 23 rfl).drewN 1
  rw [World.size_alloc] at h1
  have h2 := Join_c h1 (by omega) (fun r hr => by split <;> omega)
  rw [lenTo_two, joinTo_two] at h2
  refine h2.mono ?_
  rintro e w' ⟨g, c', rfl, hown, hb⟩
  have hsz : (((wr.alloc (.cells #[.int .u8 x.n] 5)).alloc (.cells #[.slice ad L c, .slice (some ⟨wr.heap.size, 0, none⟩) 1 1] 23)).drewN 1).heap.size = wr.heap.size + 2 := by simp [World.drewN]
  rw [hsz] at hown hb
  exact ⟨g, c', rfl, hown.mono (by omega), (below_drewN (((Below.refl _ wr).alloc (Nat.le_refl _) _).alloc (by simp) _) 1).trans (hb.mono (by omega))⟩
theorem mat_aug {R : Nat → List F} {q : Nat → F} {L n : Nat} (h : ∀ r, r < n → (R r).length = L) : ∀ r, r < n → ∀ j, j < L + 1 → mat (fun r => R r ++ [q r]) r j = augC L (mat R) q r j := fun r hr j hj => by
  unfold augC mat
  show gt (R r ++ [q r]) j = _
  have hl := h r hr
  by_cases e : j = L
  · rw [if_pos e, e, gt_lt (by simp; omega)]
    simp [hl]
  · rw [if_neg e, gt_lt (by simp; omega), gt_lt (by omega)]
    rw [List.getElem_append_left]
theorem keep_drew {w : World} {g c b o : Nat} {u v : Value} (h : w.cell? ⟨b, o, none⟩ = some v) (ne : ¬ b = g) : ((w.setCell ⟨g, c, none⟩ u).drew).cell? ⟨b, o, none⟩ = some v :=
  (show (w.setCell ⟨g, c, none⟩ u).cell? ⟨b, o, none⟩ = w.cell? ⟨b, o, none⟩ from World.cell?_setCell_other _ _ _ _ (fun e => by injection e with e; exact ne e.symm)).trans h
theorem same_yes {A B : Option Addr} {n ca cb : Nat} {a b : List F} {w : World} (ha : Row w A n a) (hb : Row w B n b) (t : Bool) (h : decide (a = b) = t) :
    Calls Try.prog 19 #[.slice A n ca, .slice B n cb] w fun e w' => e = .returned (.bool t) ∧ ∃ q, w' = w.drewN q := by
  subst h; exact Same_d A B n ca cb a b w ha hb
theorem RefSolve_no {w : World} {A : Option Addr} {n cap : Nat} {RA : Nat → Option Addr} {RL RC : Nat → Nat} {R : Nat → List F} (h : MIn w A n cap RA RL RC R) (B : Option Addr) (m cb : Nat) (hr : ¬ (isR n RL ∧ n = m)) (hm : m ≤ 9223372036854775807) :
    Calls Try.prog 23 #[.slice A n cap, .slice B m cb] w fun e w' => e = .returned (.tuple #[.slice none 0 0, .bool false]) ∧ ∃ q, w' = w.drewN q := by
  have hnm := h.nmax
  by_cases hr1 : isR n RL
  · have hne : ((n : Int) != (m : Int)) = true := by
      rw [bne_iff_ne]
      intro e
      exact hr ⟨hr1, by omega⟩
    have H1 := Lib.hid (decide_eq_true hr1)
    clear hr hr1
    go_enter Try.func23, Try.ntmps23
    go_wp2_with (go_at_call 15; refine (right_at true h H1.out).mono ?_; rintro e w' ⟨rfl, q, rfl⟩)
    go_ret2
    exact ⟨rfl, q, rfl⟩
  · have H1 := Lib.hid (decide_eq_false hr1)
    clear hr hr1
    go_enter Try.func23, Try.ntmps23
    go_wp2_with (go_at_call 15; refine (right_at false h H1.out).mono ?_; rintro e w' ⟨rfl, q, rfl⟩)
    go_ret2
    exact ⟨rfl, q, rfl⟩
theorem cellsTwo (ad : Option Addr) (n c H : Nat) : (#[Value.slice ad n c, Value.slice (some ⟨H, 0, none⟩) 1 1] : Array Value).size = 2 := rfl
set_option maxHeartbeats 8000000 in
theorem RefSolve_yes {w : World} {A : Option Addr} {n cap : Nat} {RA : Nat → Option Addr} {RL RC : Nat → Nat} {R : Nat → List F} (h : MIn w A n cap RA RL RC R) (B : Option Addr) (cb : Nat) (rt : List F) (hb : Row w B n rt) (hr : isR n RL) (hn : n ≤ 1000000) (hw : wid n RL ≤ 1000000) :
    Calls Try.prog 23 #[.slice A n cap, .slice B n cb] w fun e w' => SolRes w w' n (wid n RL) (redTo (augC (wid n RL) (mat R) (gt rt)) n (wid n RL)) e ∧ Below w.heap.size w w' := by
  obtain ⟨i1, hi1, hy0, hy1, hy2⟩ := info_parts info_bytes
  have hall := hr.all
  obtain ⟨L, hL⟩ : ∃ L, wid n RL = L := ⟨_, rfl⟩
  rw [hL] at hall hw ⊢
  have HN : Hid (n = 0 → L = 0) := fun e => by rw [← hL, e]; rfl
  have HR := Lib.hid (decide_eq_true hr)
  have HL := Lib.hid hall
  have HLEN : Hid (∀ r, r < n → (R r).length = L) := fun r hr => by rw [(h.row r hr).row.len, hall r hr]
  have hne : ((n : Int) != (n : Int)) = false := by simp
  clear hr hall hL
  go_enter Try.func23, Try.ntmps23
  go_wp2_with (go_at_call 15; refine (right_at true h HR.out).mono ?_; rintro e w' ⟨rfl, q, rfl⟩)
  have hb0 : Below w.heap.size w (w.drewN q) := below_drewN (Below.refl _ _) q
  have hsz0 : Hid ((w.drewN q).heap.size = w.heap.size) := rfl
  clear HR
  generalize w.drewN q = w0 at *
  go_loopw [6, 7, 8] (fun v6 vs i wr => ∃ (k g cg l6 : Nat) (K G : Nat → Nat), k ≤ n ∧ i = .int .i64 k ∧ v6 = .int .i64 l6 ∧ Hid (l6 = if k = 0 then 0 else L) ∧ vs = .slice (some ⟨g, 0, none⟩) k cg ∧ Bld wr w.heap.size g k cg (L + 1) K G (fun r => R r ++ [gt rt r]) ∧ Below w.heap.size w wr) (fun _ _ i _ => n - (intOf i).toNat)
  case atStart =>
    exact ⟨0, _, 0, 0, fun _ => 0, fun _ => 0, by omega, rfl, rfl, rfl, rfl, ⟨(by
      have h1 := World.ownsRow_made (e := 23) (size := 1) w0 #[] 0 (Nat.le_refl _) (Nat.zero_le _) rfl
      rw [hsz0.out] at h1
      exact h1), fun r hr => by omega, fun r s hr => by omega, fun r hr => by omega, fun r hr => by omega, fun r hr => by omega⟩, hb0.alloc hb0.size _⟩
  case round =>
    obtain ⟨k, g, cg, l6, K, G, hk, rfl, rfl, hl6, rfl, hB, hbel⟩ := hrel
    by_cases hlt : k < n
    · have hkn : (k : Int) < n := by omega
      have h2 := h.below hbel
      obtain ⟨b1, o1, rfl, lc1, q1⟩ := h.at_ hlt
      obtain ⟨b2, o2, rfl, lc2, q2⟩ := hb.at_ hlt
      have hrow := h2.row k hlt
      replace q1 := (hbel.cell (p := ⟨b1, o1 + k, none⟩) lc1).trans q1
      replace q2 := (hbel.cell (p := ⟨b2, o2 + k, none⟩) lc2).trans q2
      have lb1 := Nat.lt_of_lt_of_le lc1 hbel.size
      have lb2 := Nat.lt_of_lt_of_le lc2 hbel.size
      rw [HL.out k hlt] at q1 hrow
      have hs0 := hbel.size
      have hl62 : Hid (L = if k + 1 = 0 then 0 else L) := by unfold Hid; rw [if_neg (by omega)]
      have hgl : g < wr.heap.size := (hB.top.lt g rfl).2
      have hgw : w.heap.size ≤ g := (hB.top.lt g rfl).1
      have ag1 : some b1 ≠ (Value.slice (some ⟨g, 0, none⟩) k cg).ownBlock := fun e => by injection e with e; have e : b1 = g := e; omega
      have ag2 : some b2 ≠ (Value.slice (some ⟨g, 0, none⟩) k cg).ownBlock := fun e => by injection e with e; have e : b2 = g := e; omega
      clear h2 hl6
      go_wp2
      go_region_held3 (fun w' => w'.cell? ⟨b1, o1 + k, none⟩ = some (.slice (RA k) L (RC k)) ∧ w'.cell? ⟨b2, o2 + k, none⟩ = some (.int .u8 (gt rt k).n))
        (first
          | go_keep
          | (go_split_ands
             refine ⟨?_, ?_⟩
             · (rw [hg5.cell_far _ (by simp; omega) ag1]; assumption)
             · (rw [hg5.cell_far _ (by simp; omega) ag2]; assumption)))
        (first
          | (go_at_call 47
             (with_reducible refine (Join_two hrow hw).mono ?_)
             rintro e w3 ⟨g3, c3, rfl, hown30, hb30⟩
             have htop3 := own_below hB.top hb30
             have hs3 := hb30.size
             have k1 := (hb30.cell (p := ⟨b1, o1 + k, none⟩) lb1).trans q1
             have k2 := (hb30.cell (p := ⟨b2, o2 + k, none⟩) lb2).trans q2
             skip)
          | (refine step_append_lies _ (by rfl) (.tmp 35) (.tmp 47) 22 (by rfl) w.heap.size 23 i1 (.slice none 0 0) 1 24 Try.underlying22 hi1 hy0 hy1 hy2 rfl (by decide) (.slice (some ⟨g, 0, none⟩) k cg) k (topL (fun r => some ⟨G r, 0, none⟩) (fun _ => L + 1) K k) (by rfl) (htop3.alloc _) ⟨w3.heap.size, 0, none⟩ 1 1 [.slice (some ⟨g3, 0, none⟩) (L + 1) c3] (by rfl) (by rfl) (one_cell w3 _ _) (by intro u hu; simp at hu; subst hu; rfl) (by omega) (by unfold maxLen; omega) (by omega) (by simp; omega) (w3.heap.size + 1) (by simp) ?_; intro g5 c5 w5 hown5 hg5 hat5 hlt5))
      have hB5 := hB.step (R := fun r => R r ++ [gt rt r]) hb30 hown30 hown5 hg5 hat5 hs0
      have hb5 := ((hbel.trans (hb30.mono hs0)).alloc (by omega) (.cells #[.slice (some ⟨g3, 0, none⟩) (L + 1) c3] 23)).grown hg5 (by simp; omega) (fun x hx => (htop3.lt x hx).1)
      clear hB hbel hrow hown30 hb30 htop3 hown5 hg5 hat5 hlt5
      go_wp2
      go_roundw
      case rel => exact ⟨k + 1, g5, c5, L, _, _, by omega, by go_num, rfl, hl62, rfl, hB5, hb5⟩
      case measure => simp [intOf]; omega
    · obtain rfl : k = n := by omega
      obtain rfl : l6 = L := by
        have h1 := hl6.out
        by_cases e : k = 0
        · rw [if_pos e] at h1; rw [h1, HN.out e]
        · rw [if_neg e] at h1; exact h1
      have hcg := own_caps hB.top
      have hb5w := hbel
      have hsk := hbel.size
      have hrtk := hb.below hbel
      have hAk := h.below hbel
      have hMI := hB.mat.toIn (cg := cg) hcg.1 hcg.2
      have hRR : isR k (fun _ => l6 + 1) := fun _ _ => rfl
      have hWD : wid k (fun _ => l6 + 1) ≤ 1073741824 := by unfold wid; dsimp only; split <;> omega
      have hred := RefReduce_yes hMI hRR l6 (by omega) hWD
      have hmn : (min (l6 : Int) (wid k (fun _ => l6 + 1) : Nat)).toNat = l6 := by
        unfold wid
        dsimp only
        by_cases e : k = 0
        · rw [if_pos e]
          have := HN.out e
          omega
        · rw [if_neg e]; omega
      rw [hmn] at hred
      obtain ⟨C, hC⟩ : ∃ C, wid k (fun _ => l6 + 1) = C := ⟨_, rfl⟩
      have HC : Hid (0 < k → C = l6 + 1) := fun e => by rw [← hC]; unfold wid; rw [if_neg (by omega)]
      rw [hC] at hred
      obtain ⟨X, hX⟩ : ∃ X, redTo (mat fun r => mkF (mat (fun r => R r ++ [gt rt r]) r) (l6 + 1)) k l6 = X := ⟨_, rfl⟩
      rw [hX] at hred
      obtain ⟨Y, hY⟩ : ∃ Y, redTo (augC l6 (mat R) (gt rt)) k l6 = Y := ⟨_, rfl⟩
      have hcong := redTo_congr (M := mat fun r => mkF (mat (fun r => R r ++ [gt rt r]) r) (l6 + 1)) (M' := augC l6 (mat R) (gt rt)) (n := k) (N := l6 + 1) (fun r hr j hj => by
        rw [← mat_aug HLEN.out r hr j hj]
        show gt (mkF _ _) j = _
        rw [gt_mkF, if_pos hj]) l6 (by omega)
      rw [hX, hY] at hcong
      have HXY := Lib.hid hcong
      have hrref : Hid (Rref k l6 X.1 X.2) := by rw [← hX]; exact redTo_rref _ _ _
      have HY := Lib.hid hY
      have HRED := Lib.hid hred
      clear hX hY hcong hred hmn hC hWD hRR hMI hB
      go_wp2_with fail
      refine HRED.out.mono ?_
      rintro e w3 ⟨⟨g3, cg3, hi3, P3, r3, pc3, rfl, hc3, hc4, K3, G3, hr3, hown3, hM3⟩, hb3⟩
      obtain ⟨i0, hi0, hz0, hz1, hz2⟩ := info_parts info_u8
      have hbel3 := hb5w.trans (hb3.mono hb5w.size)
      go_wp2_with (at_make; refine wpList_make_full _ rfl _ _ 23 rfl w3.heap.size 5 i0 (.int .u8 0) 1 Try.underlying23 hi0 hz0 hz1 _ _ _ _ l6 rfl rfl rfl rfl (by rw [hz2]; omega) (by unfold maxLen; omega) (Nat.le_refl _) ?_; intro w4 hown4 hgrow4)
      have e0 : madeCells (Value.int .u8 0).cells (l6 * 1) = madeCells #[.int .u8 0] l6 := by rw [Nat.mul_one]; rfl
      rw [e0, toList_madeCells_one, ← cs_replicate] at hown4
      have hb4 := (Below.refl w3.heap.size w3).grown hgrow4 (Nat.le_refl _) (fun z e => by cases e)
      have hrn : r3 ≤ k := by rw [hr3.out]; exact hrref.out.len
      have hhi3 := hM3.hle
      go_wp2
      go_loopw [12] (fun i wr2 => ∃ (j2 : Nat) (xl : List F), j2 ≤ r3 ∧ i = .int .i64 j2 ∧ wr2.ownsRow w3.heap.size 5 1 (.slice (some ⟨w3.heap.size, 0, none⟩) l6 l6) l6 (cs xl) ∧ Below w3.heap.size w3 wr2 ∧ Hid (SolTo l6 X.1 X.2 j2 xl)) (fun i _ => r3 - (intOf i).toNat)
      case atStart => exact ⟨0, _, by omega, rfl, hown4, hb4, SolTo.start _ _ _⟩
      case round =>
        clear hown4 hgrow4 hb4 e0
        obtain ⟨j2, xl, hj2, rfl, hown4, hb4, hsol⟩ := hrel
        by_cases hlj2 : j2 < r3
        · have hjr : (j2 : Int) < r3 := by omega
          have hp := own_below hown3 hb4
          obtain ⟨gp, cp, hv, hgp1, hgp2⟩ := hp.form (by omega)
          injection hv with hv1 _ hv3
          subst hv1 hv3
          have qp := (RowV.own hp).cell hlj2
          have hlx : j2 < X.2.length := by rw [← hr3.out]; exact hlj2
          have hpv : (pivC X.2).getD j2 undef = .int .i64 ((X.2[j2] : Nat) : Int) := by
            unfold pivC
            rw [List.getD_eq_getElem?_getD, List.getElem?_map, List.getElem?_eq_getElem hlx]
            rfl
          rw [hpv] at qp
          have hcl : X.2[j2] < l6 := hrref.out.lt _ (List.getElem_mem hlx)
          obtain ⟨c, hc⟩ : ∃ c, c = X.2[j2] := ⟨_, rfl⟩
          rw [← hc] at qp hcl
          have q0 := qp
          have hCv : C = l6 + 1 := HC.out (by omega)
          have hM4 := hM3.below (hb4.mono hhi3)
          have q1 := hM4.topAt (r := j2) (by omega)
          have q2 := hM4.cellAt (r := j2) (j := l6) (by omega) (by omega)
          have hLL : (l6 : Int) < (C : Int) := by omega
          have hcL : (c : Int) < l6 := by omega
          have hjk : (j2 : Int) < k := by omega
          have hlen4 := own_len hown4
          have qx := hown4.cellAt c (by omega)
          rw [cs_at (by omega)] at qx
          have fx := hown4.frozenAt c
          have hst := Lib.hid (hown4.stored c (.int .u8 (X.1 j2 l6).n)).1
          have hsol2 : Hid (SolTo l6 X.1 X.2 (j2 + 1) (xl.set c (X.1 j2 l6))) := by
            rw [hc]
            exact hsol.out.step hlx hrref.out.inc (by rw [← hc]; exact hcl)
          have ne1 : ¬ gp = w3.heap.size := by have := (hown3.lt gp rfl).2; omega
          have t0 := keep_drew (u := Value.int IntKind.u8 (X.1 j2 l6).n) (c := c) q0 ne1
          have ne2 : ¬ g3 = w3.heap.size := by have := hM3.glo.2; omega
          have t1 := keep_drew (u := Value.int IntKind.u8 (X.1 j2 l6).n) (c := c) q1 ne2
          have ne3 : ¬ G3 j2 = w3.heap.size := by have := (hM3.rlo j2 (by omega)).2; omega
          have t2 := keep_drew (u := Value.int IntKind.u8 (X.1 j2 l6).n) (c := c) q2 ne3
          clear hc hpv hM4 hp hown4 hsol hlen4 hCv
          go_wp2
          go_region_held3 (fun w' => w'.cell? ⟨gp, j2, none⟩ = some (.int .i64 c) ∧ w'.cell? ⟨g3, j2, none⟩ = some (.slice (some ⟨G3 j2, 0, none⟩) C (K3 j2)) ∧ w'.cell? ⟨G3 j2, l6, none⟩ = some (.int .u8 (X.1 j2 l6).n))
            (first
              | go_keep
              | (go_split_ands; exact ⟨t0, t1, t2⟩)
              | exact ⟨t0, t1, t2⟩) (fail)
          go_wp2
          go_roundw
          case rel =>
            refine ⟨j2 + 1, _, by omega, by go_num, ?_, below_drewN (hb4.setCell (Nat.le_refl _) _) 1, hsol2⟩
            have h := hst.out
            rw [cs_set] at h
            exact h
          case measure => simp [intOf]; omega
        · obtain rfl : j2 = r3 := by omega
          have hfin : SolX l6 Y.1 Y.2 (gt xl) := by
            have h1 := hsol.out
            rw [hr3.out] at h1
            have h2 := h1.fin
            have h3 := HXY.out
            refine ⟨fun k2 hk2 => ?_, fun j hj hn2 => h2.off j hj (by rw [h3.1]; exact hn2)⟩
            have h4 : k2 < X.2.length := by rw [h3.1]; exact hk2
            have h5 := h2.at_ k2 h4
            have h6 : Y.2[k2] = X.2[k2] := by simp only [h3.1]
            rw [h6, h5]
            exact h3.2 k2 (by have := hrref.out.len; omega) l6 (by omega)
          have hxl : xl.length = l6 := own_len hown4
          have hiff : timesF k RL R xl = rt ↔ Cons Y k l6 := by
            have h1 := sol_right (n := k) (N := l6) (mat R) (gt rt) (x := gt xl) (by rw [HY.out]; exact hfin)
            rw [HY.out] at h1
            refine Iff.trans ?_ h1
            have hrl := hb.len
            constructor
            · intro e i hi
              rw [← gt_times HL.out hxl hi, e]
            · intro e
              refine ext_gt (by rw [timesF_length, hrl]) fun i hi => ?_
              rw [timesF_length] at hi
              rw [gt_times HL.out hxl hi, e i hi]
          have HF := Lib.hid hfin
          have hA4 := (hAk.below hb3).below hb4
          have hr4 := (hrtk.below hb3).below hb4
          have hx4 := Row.of_own hown4
          have hbel4 := hbel3.trans (hb4.mono hbel3.size)
          have HIFF := Lib.hid hiff
          clear hfin hiff hsol hxl hM3 hown3
          go_wp2_with fail
          refine (RefTimes_c hA4 _ l6 l6 xl hx4 (by omega)).mono ?_
          rintro e w5 ⟨O, co, rfl, ho5, hb5⟩
          have hu5 := Row.of_own ho5
          have hr5 := hr4.below hb5
          have hown5 := own_below hown4 hb5
          have hbel5 := hbel4.trans (hb5.mono hbel4.size)
          clear hA4 hr4 hx4 hbel4 hb5 ho5 hown4
          by_cases hcons : Cons Y k l6
          · have HC2 : Hid (Cons Y k l6) := hcons
            have HE := Lib.hid (decide_eq_true (HIFF.out.2 hcons))
            clear hcons
            go_wp2_with fail
            refine (same_yes hu5 hr5 true HE.out).mono ?_
            rintro e _ ⟨rfl, q6, rfl⟩
            go_wp2
            go_ret2
            rw [HY.out]
            exact ⟨.inl ⟨HC2.out, _, xl, rfl, hown5.mono hbel3.size, HF.out⟩, below_drewN hbel5 q6⟩
          · have HC2 : Hid (¬ Cons Y k l6) := hcons
            have HE := Lib.hid (decide_eq_false (fun e => hcons (HIFF.out.1 e)))
            clear hcons
            go_wp2_with fail
            refine (same_yes hu5 hr5 false HE.out).mono ?_
            rintro e _ ⟨rfl, q6, rfl⟩
            go_wp2
            go_ret2
            rw [HY.out]
            exact ⟨.inr ⟨HC2.out, rfl⟩, below_drewN hbel5 q6⟩

section
variable {w : World} {A : Option Addr} {n cap : Nat} {RA : Nat → Option Addr} {RL RC : Nat → Nat} {R : Nat → List F}
set_option maxHeartbeats 1000000 in
theorem solves_less (h : MIn w A n cap RA RL RC R) (B : Option Addr) (m cb : Nat) (hm : m ≤ 9223372036854775807) (hc : ¬ (isS n RL ∧ m ≤ 30)) :
    Calls Try.prog 4 #[.slice A n cap, .slice B m cb] w fun e w' => e = .returned (.bool true) ∧ Below w.heap.size w w' := by
  by_cases hs : isS n RL
  · have HS := Lib.hid (decide_eq_true hs)
    have hn : (30 : Int) < m := by
      have : ¬ m ≤ 30 := fun e => hc ⟨hs, e⟩
      omega
    clear hc hs
    go_enter Try.func4, Try.ntmps4
    go_wp2_with (first
      | (go_at_call 10; refine (alive03_c _).mono ?_; rintro e w1 ⟨rfl, hb1⟩; have h1 := h.below hb1)
      | (go_at_call 11; refine (small_at true h1 HS.out).mono ?_; rintro e w' ⟨rfl, rfl⟩))
    go_ret
    exact ⟨rfl, hb1⟩
  · have HS := Lib.hid (decide_eq_false hs)
    clear hc hs
    go_enter Try.func4, Try.ntmps4
    go_wp2_with (first
      | (go_at_call 10; refine (alive03_c _).mono ?_; rintro e w1 ⟨rfl, hb1⟩; have h1 := h.below hb1)
      | (go_at_call 11; refine (small_at false h1 HS.out).mono ?_; rintro e w' ⟨rfl, rfl⟩))
    go_ret
    exact ⟨rfl, hb1⟩
theorem SolX.eq {L : Nat} {X : (Nat → Nat → F) × List Nat} {x y : List F} (hx : SolX L X.1 X.2 (gt x)) (hy : SolX L X.1 X.2 (gt y)) (lx : x.length = L) (ly : y.length = L) : x = y := by
  refine ext_gt (by omega) fun i hi => ?_
  by_cases h : i ∈ X.2
  · obtain ⟨k, hk, rfl⟩ := List.getElem_of_mem h
    rw [hx.at_ k hk, hy.at_ k hk]
  · rw [hx.off i (by omega) h, hy.off i (by omega) h]
set_option maxHeartbeats 2000000 in
theorem solves_main (h : MIn w A n cap RA RL RC R) (B : Option Addr) (m cb : Nat) (x : List F) (hx : Row w B m x) (hs : isS n RL) (hm : m ≤ 30) :
    Calls Try.prog 4 #[.slice A n cap, .slice B m cb] w fun e w' => e = .returned (.bool true) ∧ Below w.heap.size w w' := by
  have HS := Lib.hid (decide_eq_true hs)
  have hn20 := hs.1
  have hmi : ¬ (30 : Int) < m := by omega
  have hw20 : wid n RL ≤ 20 := by
    unfold wid
    split
    · omega
    · exact hs.2 0 (by omega)
  have HW1 : Hid (wid n RL ≤ 1048576) := by unfold Hid; omega
  have HW2 : Hid (wid n RL ≤ 1000000) := by unfold Hid; omega
  by_cases hr : isR n RL ∧ n = m
  · obtain ⟨hr1, rfl⟩ := hr
    have HR := Lib.hid hr1
    obtain ⟨L, hL⟩ : ∃ L, wid n RL = L := ⟨_, rfl⟩
    obtain ⟨X, hX⟩ : ∃ X, redTo (augC L (mat R) (gt x)) n L = X := ⟨_, rfl⟩
    have HX := Lib.hid hX
    have HL := Lib.hid hL
    clear hs hw20 hr1 hX hL
    go_enter Try.func4, Try.ntmps4
    go_wp2_with (first
      | (go_at_call 10; refine (alive03_c _).mono ?_; rintro e w1 ⟨rfl, hb1⟩; have h1 := h.below hb1; have hx1 := hx.below hb1)
      | (go_at_call 11; refine (small_at true h1 HS.out).mono ?_; rintro e w' ⟨rfl, rfl⟩))
    refine (Solve_yes h1 B cb x hx1 HR.out (by omega) HW1.out).mono ?_
    rintro e w2 ⟨hres, hb2⟩
    rw [HL.out, HX.out] at hres
    have h2 := h1.below hb2
    have hx2 := hx1.below hb2
    have hB2 := hb1.trans (hb2.mono hb1.size)
    clear h h1 hx hx1
    rcases hres with ⟨HC, g, xl, rfl, hown, hsol⟩ | ⟨HC, rfl⟩
    · have HC2 := Lib.hid HC
      have HSOL := Lib.hid hsol
      clear HC hsol
      go_wp2_with fail
      refine (RefSolve_yes h2 B cb x hx2 HR.out (by omega) HW2.out).mono ?_
      rintro e w3 ⟨hres, hb3⟩
      rw [HL.out, HX.out] at hres
      rcases hres with ⟨HC, g3, yl, rfl, hown3, hsol3⟩ | ⟨HC, rfl⟩
      · have hr2 := (Row.of_own hown).below hb3
        have hr3 := Row.of_own hown3
        have hE := Lib.hid (SolX.eq HSOL.out hsol3 (own_len hown) (own_len hown3))
        have hB3 := hB2.trans (hb3.mono hB2.size)
        clear HC hsol3 hown hown3 h2 hx2 hb2 hb3 hB2 hb1
        go_wp2_with fail
        refine (Same_c _ _ L _ _ _ _ w3 hr2 hr3 hE.out).mono ?_
        rintro e _ ⟨rfl, q, rfl⟩
        go_wp2
        go_ret
        exact ⟨rfl, below_drewN hB3 q⟩
      · exact absurd HC2.out HC
    · have HC2 := Lib.hid HC
      clear HC
      go_wp2_with fail
      refine (RefSolve_yes h2 B cb x hx2 HR.out (by omega) HW2.out).mono ?_
      rintro e w3 ⟨hres, hb3⟩
      rw [HL.out, HX.out] at hres
      rcases hres with ⟨HC, g3, yl, rfl, hown3, hsol3⟩ | ⟨HC, rfl⟩
      · exact absurd HC HC2.out
      · have hB3 := hB2.trans (hb3.mono hB2.size)
        clear HC h2 hx2 hb2 hb3 hB2 hb1
        go_wp2_with fail
        refine (Same_c _ _ 0 _ _ _ _ w3 (Row.nil w3 none) (Row.nil w3 none) rfl).mono ?_
        rintro e _ ⟨rfl, q, rfl⟩
        go_wp2
        go_ret
        exact ⟨rfl, below_drewN hB3 q⟩
  · have HR := Lib.hid hr
    have hmm := hx.max
    clear hs hw20 hr
    go_enter Try.func4, Try.ntmps4
    go_wp2_with (first
      | (go_at_call 10; refine (alive03_c _).mono ?_; rintro e w1 ⟨rfl, hb1⟩; have h1 := h.below hb1)
      | (go_at_call 11; refine (small_at true h1 HS.out).mono ?_; rintro e w' ⟨rfl, rfl⟩))
    refine (Solve_no h1 B m cb HR.out hmm).mono ?_
    rintro e _ ⟨rfl, rfl⟩
    go_wp2_with fail
    refine (RefSolve_no h1 B m cb HR.out hmm).mono ?_
    rintro e _ ⟨rfl, q2, rfl⟩
    have hB2 := below_drewN hb1 q2
    clear h h1 hb1
    generalize w1.drewN q2 = w2 at *
    go_wp2_with fail
    refine (Same_c _ _ 0 _ _ _ _ w2 (Row.nil w2 none) (Row.nil w2 none) rfl).mono ?_
    rintro e _ ⟨rfl, q, rfl⟩
    go_wp2
    go_ret
    exact ⟨rfl, below_drewN hB2 q⟩
theorem walk_LinearSolves (w : World) (A : Option Addr) (n cap : Nat) (RA : Nat → Option Addr) (RL RC : Nat → Nat) (R : Nat → List F) (h : MIn w A n cap RA RL RC R) (B : Option Addr) (m cb : Nat) (x : List F) (hx : RowIn w B m cb x) :
    Calls Try.prog 4 #[.slice A n cap, .slice B m cb] w fun e w' => e = .returned (.bool true) ∧ Below w.heap.size w w' := by
  by_cases hc : isS n RL ∧ m ≤ 30
  · exact solves_main h B m cb x hx.row hc.1 hc.2
  · exact solves_less h B m cb hx.row.max hc
end
end Go.Proofs.Ytciljflnhleocaa
