/-
  STRIPES: what each column comes to at the columns that follow: the program's addBits. Columns of at most 2^30 bytes, 255 in all.
-/
import Derived.Test.YtbmkcnlcffnjgaaSrh
namespace Go.Proofs.Ytbmkcnlcffnjgaa
open Go.RowKit
set_option maxRecDepth 100000
set_option linter.unusedVariables false

theorem Mat.put {w : World} {lo hi g n C : Nat} {K G : Nat → Nat} {M : Nat → Nat → F} (h : Mat w lo hi g n C K G M) {r a : Nat} (hr : r < n) (ha : a < C) (v : F) :
    Mat (w.setCell ⟨G r, a, none⟩ (.int .u8 v.n)) lo hi g n C K G (fun s c => if s = r then (if c = a then v else M r c) else M s c) ∧ Out lo hi w (w.setCell ⟨G r, a, none⟩ (.int .u8 v.n)) := by
  have h1 := ((h.rows r hr).set a (.int .u8 v.n)).congr (g := fun c => .int .u8 ((fun c => if c = a then v else M r c) c : F).n) fun c hc => by
    by_cases e : c = a
    · subst e; rw [if_pos rfl]; show _ = Value.int .u8 ((if c = c then v else M r c : F).n : Int); rw [if_pos rfl]
    · rw [if_neg e]; show _ = Value.int .u8 ((if c = a then v else M r c : F).n : Int); rw [if_neg e]
  exact ⟨(h.change hr (setCell_grown _ _ _ _) h1).congr fun s hs c hc => by
    by_cases e : s = r
    · rw [if_pos e, if_pos e]
    · rw [if_neg e, if_neg e], Out.ofGrown (setCell_grown _ _ _ _) (h.rlo r hr)⟩
theorem Row.outHi {w w' : World} {lo hi b n : Nat} {l : List F} (h : Row w (some ⟨b, 0, none⟩) n l) (ho : Out lo hi w w') (hb : hi ≤ b) : Row w' (some ⟨b, 0, none⟩) n l := by
  refine ⟨h.1, h.2.1, fun hn => ?_⟩
  obtain ⟨b', o, e, hl, hc⟩ := h.2.2 hn
  injection e with e
  injection e with e1 e2
  subst e1 e2
  refine ⟨b, 0, rfl, Nat.lt_of_lt_of_le hl ho.size, fun i hi => ?_⟩
  rw [World.cell?_of_block (a := ⟨b, 0 + i, none⟩) (ho.block b hl (.inr hb))]
  exact hc i hi
theorem Blk.outHi {w w' : World} {lo hi b : Nat} {t : TypeId} {C : Array Value} (h : Blk w b t C) (ho : Out lo hi w w') (hb : hi ≤ b) : Blk w' b t C := (ho.block b h.lt (.inr hb)).trans h
theorem par_all {n i j : Nat} {B : Nat → List F} {s : Nat → F} (hn : n ≤ 256) (h : ∀ b, b < 8 → ParAt n (alone n i (ofN (2 ^ b))) j (gt (B b) j)) (hs : Rec8 (fun b => gt (B b) j) s 8) (v : F) : ParAt n (alone n i v) j (s v.n) := by
  have key : ∀ b, b ≤ 8 → ∀ v, v < 2 ^ b → ParAt n (alone n i (ofN v)) j (s v) := by
    intro b
    induction b with
    | zero =>
      intro _ v hv
      obtain rfl : v = 0 := by simpa using hv
      rw [hs.1]
      exact alone_none n i j
    | succ b ih =>
      intro hb v hv
      rcases Nat.lt_or_ge v (2 ^ b) with h1 | h1
      · exact ih (by omega) v h1
      · obtain ⟨u, rfl⟩ : ∃ u, v = 2 ^ b + u := ⟨v - 2 ^ b, by omega⟩
        have hu : u < 2 ^ b := by rw [Nat.pow_succ] at hv; omega
        rw [hs.2 b (by omega) u hu]
        exact alone_step (by omega) hu (ih (by omega) u hu) (h b (by omega))
  have h1 := key 8 (Nat.le_refl _) v.n v.lt
  rw [show ofN v.n = v from F.ext (ofN_n _ v.lt)] at h1
  exact h1
theorem store_new_vs {t : TypeId} {m : Nat} (hs : (Try.prog.info? t).map (·.size) = some m) (w : World) (z f : Nat → Value) (hf : ∀ i, i < m → (f i).oneCell' = true) : Sem.run Try.prog (storeCells ⟨w.heap.size, 0, none⟩ (vs f m) 0) (w.alloc (.cells (vs z m).toArray t)) = .ok () (w.alloc (.cells (vs f m).toArray t)) := by
  have h := storeCells_vs hs (w.alloc (.cells (vs z m).toArray t)) w.heap.size _ f (by rw [List.size_toArray, vs_length]) hf (Blk.new _ _ _)
  rw [World.setRow_alloc_new] at h
  exact h
set_option maxHeartbeats 4000000 in
theorem addBits_c {w0 w : World} {A : Option Addr} {n c C : Nat} {RA : Nat → Option Addr} {RL RC : Nat → Nat} {R : Nat → List F} (h : MIn w0 A n c RA RL RC R) (hL : ∀ r, r < n → RL r = C) {k : Nat} (hk : n + k ≤ 255) (hC : C ≤ 1073741824)
    {hi g : Nat} {K G : Nat → Nat} (hb : Below w0.heap.size w0 w) (hM : Mat w w0.heap.size hi g k C K G (fun _ _ => 0)) (hhi : w0.heap.size ≤ hi) :
    Calls Try.prog 33 #[.slice (some ⟨g, 0, none⟩) k k, .slice A n c] w fun e w' => e = .returned (.tuple #[]) ∧ ∃ M', Mat w' w0.heap.size hi g k C K G M' ∧ (∀ j, j < k → ∀ a, a < C → ParAt n (rowAt R n a) j (M' j a)) ∧ Below w0.heap.size w0 w' := by
  have hz := zero_a8
  have hz2 := zero_a256
  have HH := Lib.hid h
  have HL := Lib.hid hL
  have HB := Lib.hid hb
  have HM := Lib.hid hM
  clear h hL hb hM
  go_enter Try.func33, Try.ntmps33
  go_wp2
  go_loopw [13] (fun iv wr => ∃ i : Nat, i ≤ n ∧ iv = .int .i64 i ∧ ∃ M, Hid (Mat wr w0.heap.size hi g k C K G M) ∧ Hid (∀ j, j < k → ∀ a, a < C → ParAt n (rowTo R n a i) j (M j a)) ∧ Hid (Below w0.heap.size w0 wr)) (fun iv _ => n - (intOf iv).toNat)
  case atStart => exact ⟨0, by omega, rfl, _, HM, fun j hj a ha => rowTo_none R n a j, HB⟩
  case round =>
    clear HM HB
    obtain ⟨i, hi', rfl, M, HM, HP, HB⟩ := hrel
    by_cases hlt : i < n
    · have hii : (i : Int) < (n : Int) := by omega
      have hMI := HH.out.below HB.out
      obtain ⟨b1, o1, rfl, _, q1⟩ := hMI.at_ hlt
      have hrow := (hMI.row i hlt)
      rw [HL.out i hlt] at q1 hrow
      obtain ⟨Ai, hAi⟩ : ∃ Ai, Ai = RA i := ⟨_, rfl⟩
      rw [← hAi] at q1
      have HAI := Lib.hid hAi
      clear hrow hMI hAi
      go_wp2_with fail
      refine (bitRows_c wr n i k hlt hk).mono ?_
      rintro e w5 ⟨G8, B, rfl, hG8, hpar, hb5⟩
      have HG8 := Lib.hid hG8
      have HPAR := Lib.hid hpar
      have HB5 := Lib.hid hb5
      clear hG8 hpar hb5 q1
      have hst8 := store_new_vs size_a8 w5 (fun _ => .slice none 0 0) (fun b => .slice (some ⟨G8 b, 0, none⟩) k k) (fun i hi => rfl)
      have hl8 : (vs (fun b => Value.slice (some ⟨G8 b, 0, none⟩) k k) 8).length = 8 := vs_length _ _
      have HM6 : Hid (Mat (w5.alloc (.cells (vs (fun b => .slice (some ⟨G8 b, 0, none⟩) k k) 8).toArray 66)) w0.heap.size hi g k C K G M) := HM.out.below ((HB5.out.mono HM.out.hle).alloc (by have := HB5.out.size; have := HM.out.hle; omega) _)
      have HB6 : Hid (Below w0.heap.size w0 (w5.alloc (.cells (vs (fun b => .slice (some ⟨G8 b, 0, none⟩) k k) 8).toArray 66))) := (HB.out.trans (HB5.out.mono HB.out.size)).alloc (by have := HB5.out.size; have := HB.out.size; omega) _
      have HG6 : Hid (∀ b, b < 8 → hi ≤ G8 b ∧ Row (w5.alloc (.cells (vs (fun b => .slice (some ⟨G8 b, 0, none⟩) k k) 8).toArray 66)) (some ⟨G8 b, 0, none⟩) k (B b)) := fun b hb => ⟨Nat.le_trans HM.out.hle (HG8.out b hb).1, (HG8.out b hb).2.below ((Below.refl _ _).alloc (Nat.le_refl _) _)⟩
      have HA6 : Hid (Blk (w5.alloc (.cells (vs (fun b => .slice (some ⟨G8 b, 0, none⟩) k k) 8).toArray 66)) w5.heap.size 66 (vs (fun b => .slice (some ⟨G8 b, 0, none⟩) k k) 8).toArray) := Blk.new _ _ _
      have hpa : hi ≤ w5.heap.size := Nat.le_trans HM.out.hle HB5.out.size
      go_wp2
      generalize w5.alloc (.cells (vs (fun b => .slice (some ⟨G8 b, 0, none⟩) k k) 8).toArray 66) = W6 at *
      generalize w5.heap.size = pa at *
      clear hst8 HM HB HG8 HB5
      go_loopw [26] (fun iv wr => ∃ j : Nat, j ≤ k ∧ iv = .int .i64 j ∧ ∃ M, Hid (Mat wr w0.heap.size hi g k C K G M) ∧ Hid (∀ j', j' < k → ∀ a, a < C → ParAt n (rowTo R n a (if j' < j then i + 1 else i)) j' (M j' a)) ∧ Hid (Out w0.heap.size hi W6 wr)) (fun iv _ => k - (intOf iv).toNat)
      case atStart => exact ⟨0, by omega, rfl, M, HM6, fun j hj a ha => by rw [if_neg (by omega)]; exact HP.out j hj a ha, Out.refl _ _ _⟩
      case round =>
        clear HM6 HP M
        obtain ⟨j, hj', rfl, M, HM, HP, HO⟩ := hrel
        by_cases hlj : j < k
        · have hji : (j : Int) < (k : Int) := by omega
          have hld := load_a8 _ _ _ (HA6.out.outHi HO.out hpa)
          have hBS := byteSums_c wr (fun b => some ⟨G8 b, 0, none⟩) (fun _ => k) B k j hlj (fun b hb => (HG6.out b hb).2.outHi HO.out (HG6.out b hb).1) (by omega)
          have HBS := Lib.hid hBS
          clear hBS
          go_wp2_with ((with_reducible refine wpList_load_var pa _ ?hp hld ?hK); case hp => rfl)
          refine HBS.out.mono ?_
          rintro e w7 ⟨s, rfl, hrec, hb7⟩
          have HS := Lib.hid (fun v => par_all (by omega) (fun b hb => HPAR.out b hb j hlj) hrec v)
          have HB7 := Lib.hid hb7
          clear hrec hb7 HBS hld
          have hst9 := store_new_vs size_a256 w7 (fun _ => .int .u8 0) (fv s) (fun i hi => rfl)
          have hl9 : (vs (fv s) 256).length = 256 := vs_length _ _
          have HM8 : Hid (Mat (w7.alloc (.cells (vs (fv s) 256).toArray 68)) w0.heap.size hi g k C K G M) := HM.out.below ((HB7.out.mono HM.out.hle).alloc (by have := HB7.out.size; have := HM.out.hle; omega) _)
          have HO8 : Hid (Out w0.heap.size hi W6 (w7.alloc (.cells (vs (fv s) 256).toArray 68))) := HO.out.trans (Out.ofBelow (HB7.out.alloc HB7.out.size _))
          have HS8 : Hid (Blk (w7.alloc (.cells (vs (fv s) 256).toArray 68)) w7.heap.size 68 (vs (fv s) 256).toArray) := Blk.new _ _ _
          have hps : hi ≤ w7.heap.size := Nat.le_trans HM.out.hle HB7.out.size
          go_wp2
          generalize w7.alloc (.cells (vs (fv s) 256).toArray 68) = W8 at *
          generalize w7.heap.size = ps at *
          clear hst9 HM HB7 HO
          go_loopw [34] (fun iv wr => ∃ a : Nat, a ≤ C ∧ iv = .int .i64 a ∧ ∃ M, Hid (Mat wr w0.heap.size hi g k C K G M) ∧ Hid (∀ j', j' < k → ∀ b, b < C → ParAt n (rowTo R n b (if j' < j ∨ (j' = j ∧ b < a) then i + 1 else i)) j' (M j' b)) ∧ Hid (Out w0.heap.size hi W8 wr)) (fun iv _ => C - (intOf iv).toNat)
          case atStart => exact ⟨0, by omega, rfl, M, HM8, fun j' hj' b hb => by
            have h1 := HP.out j' hj' b hb
            by_cases e : j' < j
            · rw [if_pos e] at h1; rw [if_pos (.inl e)]; exact h1
            · rw [if_neg e] at h1; rw [if_neg (by omega)]; exact h1, Out.refl _ _ _⟩
          case round =>
            clear HM8 HP M
            obtain ⟨a, ha', rfl, M, HM, HP, HO⟩ := hrel
            by_cases hla : a < C
            · have hai : (a : Int) < (C : Int) := by omega
              have hrow := (HH.out.below (HB6.out.trans ((HO8.out.trans HO.out).below HB6.out.size))).row i hlt
              rw [HL.out i hlt, ← HAI.out] at hrow
              obtain ⟨b3, o3, hA3, _, q3⟩ := hrow.row.at_ (k := a) hla
              have qt := HM.out.topAt hlj
              have qc := HM.out.cellAt hlj hla
              have qf := (HM.out.rows j hlj).frozen a
              have hx := (gt (R i) a).lt
              have qs := (HS8.out.outHi HO.out hps).cell (gt (R i) a).n
              rw [List.getElem?_toArray, vs_at _ hx] at qs
              unfold fv at qs
              have hxor := bits_xor (M j a) (s (gt (R i) a).n)
              have hput := HM.out.put hlj hla (M j a + s (gt (R i) a).n)
              have HPUT := Lib.hid hput
              have hxi : ((gt (R i) a).n : Int) < 256 := by omega
              clear hput hrow hx
              have hstep : Hid (∀ j', j' < k → ∀ b, b < C → ParAt n (rowTo R n b (if j' < j ∨ (j' = j ∧ b < a + 1) then i + 1 else i)) j' (if j' = j then (if b = a then M j a + s (gt (R i) a).n else M j b) else M j' b)) := fun j' hj' b hb => by
                have h1 := HP.out j' hj' b hb
                by_cases e : j' = j
                · subst e
                  rw [if_pos rfl]
                  by_cases e2 : b = a
                  · subst e2
                    rw [if_neg (by omega)] at h1
                    rw [if_pos rfl, if_pos (by omega)]
                    exact rowTo_step hlt h1 (HS.out _)
                  · rw [if_neg e2]
                    by_cases e3 : b < a
                    · rw [if_pos (by omega)] at h1; rw [if_pos (by omega)]; exact h1
                    · rw [if_neg (by omega)] at h1; rw [if_neg (by omega)]; exact h1
                · rw [if_neg e]
                  by_cases e3 : j' < j
                  · rw [if_pos (by omega)] at h1; rw [if_pos (by omega)]; exact h1
                  · rw [if_neg (by omega)] at h1; rw [if_neg (by omega)]; exact h1
              obtain ⟨z, hz3⟩ : ∃ z, z = M j a + s (gt (R i) a).n := ⟨_, rfl⟩
              rw [← hz3] at hxor HPUT hstep
              generalize s (gt (R i) a).n = sx at *
              generalize gt (R i) a = x at *
              generalize M j a = m at *
              subst hA3
              clear hz3 HP
              go_wp2
              go_still_tail 12, (by kernel_rfl)
              go_wp2
              go_roundw
              case rel => exact ⟨a + 1, by omega, by go_num, _, HPUT.out.1.below (Below.refl _ _).drew, hstep, HO.out.trans (HPUT.out.2.trans (Out.drewN _ _ _ 1))⟩
              case measure => simp [intOf]; omega
            · obtain rfl : a = C := by omega
              go_wp2
              go_roundw
              case rel => exact ⟨j + 1, by omega, by go_num, M, HM, fun j' hj' b hb => by
                have h1 := HP.out j' hj' b hb
                by_cases e : j' < j + 1
                · rw [if_pos (by omega)] at h1; rw [if_pos e]; exact h1
                · rw [if_neg (by omega)] at h1; rw [if_neg e]; exact h1, HO8.out.trans HO.out⟩
              case measure => simp [intOf]; omega
        · obtain rfl : j = k := by omega
          go_wp2
          go_roundw
          case rel => exact ⟨i + 1, by omega, by go_num, M, HM, fun j' hj' a ha => by have := HP.out j' hj' a ha; rw [if_pos hj'] at this; exact this, HO.out.below HB6.out.size |> HB6.out.trans⟩
          case measure => simp [intOf]; omega
    · obtain rfl : i = n := by omega
      go_wp2
      go_end0
      exact ⟨rfl, M, HM.out, fun j hj a ha => rowTo_all (HP.out j hj a ha), HB.out⟩
end Go.Proofs.Ytbmkcnlcffnjgaa
