/-
  LAW 10's WALK: CanonBack: it returns true, and writes nothing that was there. No conditions.
-/
import Derived.Test.YtanhgjaokgnlhaaLaw10
import Derived.Test.YtanhgjaokgnlhaaCanD
import Derived.Test.YtanhgjaokgnlhaaLaw08
namespace Go.Proofs.Ytanhgjaokgnlhaa
open Go.RowKit
set_option maxRecDepth 100000
set_option linter.unusedVariables false

/-- a row of symbols, written by their codes -/
def encM (l : List Int) : List Nat → List Bool
  | [] => []
  | s :: r => codeB (codeN l s) (lnN l s) ++ encM l r
theorem encM_append (l : List Int) (M N : List Nat) : encM l (M ++ N) = encM l M ++ encM l N := by
  induction M with
  | nil => rfl
  | cons s r ih => show _ ++ encM l (r ++ N) = _; rw [ih, ← List.append_assoc]; rfl
theorem encM_snoc (l : List Int) (M : List Nat) (s : Nat) : encM l (M ++ [s]) = encM l M ++ codeB (codeN l s) (lnN l s) := by
  rw [encM_append]
  show _ ++ (_ ++ []) = _
  rw [List.append_nil]
theorem encM_length_le (l : List Int) (M : List Nat) (h : ∀ s ∈ M, lnN l s ≤ 15) : (encM l M).length ≤ 15 * M.length := by
  induction M with
  | nil => exact Nat.le_refl _
  | cons s r ih =>
    have h1 := ih fun t ht => h t (List.mem_cons_of_mem _ ht)
    have h2 := h s (List.mem_cons_self ..)
    show (_ ++ _ : List Bool).length ≤ _
    rw [List.length_append, codeB_length, List.length_cons]
    omega
/-- what is written is read -/
theorem read_enc {l : List Int} (hr : RightL l) (hk : kr l l.length ≤ 32768) {M : List Nat} (hM : ∀ s ∈ M, s < l.length ∧ 0 < gi l s) {k s tot : Nat} (hs : M[k]? = some s) (ht : (encM l M).length ≤ tot) :
    RdS l (gbit (encM l M)) tot (encM l (M.take k)).length s (lnN l s) 0 ∧ (encM l (M.take (k + 1))).length = (encM l (M.take k)).length + lnN l s := by
  obtain ⟨hkl, hks⟩ := List.getElem?_eq_some_iff.1 hs
  obtain ⟨h1, h2⟩ := hM s (hks ▸ List.getElem_mem hkl)
  have h3 := lnN_int hr h1
  have h4 := codeN_lt hr hk h1 h2
  have e1 : M.take (k + 1) = M.take k ++ [s] := by rw [List.take_succ_eq_append_getElem hkl, hks]
  have e2 : encM l M = encM l (M.take k) ++ codeB (codeN l s) (lnN l s) ++ encM l (M.drop (k + 1)) := by
    rw [← encM_snoc, ← e1, ← encM_append, List.take_append_drop]
  have e3 : (encM l (M.take (k + 1))).length = (encM l (M.take k)).length + lnN l s := by rw [e1, encM_snoc, List.length_append, codeB_length]
  have e4 : (encM l (M.take k)).length + lnN l s ≤ (encM l M).length := by rw [e2, List.length_append, List.length_append, codeB_length]; omega
  have hcv : ∀ j, j ≤ lnN l s → cv (gbit (encM l M)) (encM l (M.take k)).length j = codeN l s / 2 ^ (lnN l s - j) := fun j hj => by
    refine ((head_iff _ _ _ _ h4.2 j hj).1 ?_).symm
    rw [codeB_take _ _ _ hj]
    unfold hdB
    refine List.map_congr_left fun i hi => ?_
    rw [List.mem_range] at hi
    rw [e2, gbit_append, if_pos (by rw [List.length_append, codeB_length]; omega), gbit_append, if_neg (by omega), show (encM l (M.take k)).length + i - (encM l (M.take k)).length = i by omega]
    unfold codeB gbit
    simp
    rw [List.getElem?_range (by omega)]
    rfl
  refine ⟨⟨fun j h5 h6 => ?_, .inl ⟨rfl, by omega, by omega, h1, h3.1.symm, ?_⟩⟩, e3⟩
  · rw [hcv j (by omega)]
    have h7 := fK_up l l.length j (lnN l s - j - 1)
    rw [show j + (lnN l s - j - 1 + 1) = lnN l s by omega, show lnN l s - j - 1 + 1 = lnN l s - j by omega] at h7
    have h8 := codeN_ge h2
    exact (Nat.le_div_iff_mul_le (Nat.pow_pos (by decide))).2 (by rw [Nat.mul_comm]; omega)
  · rw [hcv _ (Nat.le_refl _), Nat.sub_self, Nat.pow_zero, Nat.div_one]
theorem own_wout2 {p base n c : Nat} {e : TypeId} {a b : Option Nat} {A : Option Addr} {xs : List Value} {w w' : World} (h : WOut p a b w w') (ho : w.ownsRow base e 1 (.slice A n c) n xs) (hne : ∀ g, (Value.slice A n c).ownBlock = some g → g ≠ p ∧ a ≠ some g) : w'.ownsRow base e 1 (.slice A n c) n xs := by
  refine ⟨ho.1, ?_⟩
  rcases ho.2 with hn | ⟨g, cap, cur, hv, hbg, hg, rest⟩
  · exact .inl hn
  · have h1 := hne g (by rw [hv]; rfl)
    exact .inr ⟨g, cap, cur, hv, hbg, (h.block g (Array.getElem?_eq_some_iff.1 hg).1 h1.1 h1.2).trans hg, rest⟩
theorem Wr.kept {w w' : World} {p : Nat} {A : Option Addr} {len cap n : Nat} {X : List Bool} (h : Wr w p A len cap n X) {row : Option Nat} (hg : w.grownBy w' row) (hp : row ≠ some p) (ha : ∀ g, (Value.slice A len cap).ownBlock = some g → row ≠ some g) : Wr w' p A len cap n X := by
  refine ⟨h.blk.kept hg ⟨h.lt, hp⟩, own_kept h.own hg ha, h.hl, h.hn, h.few⟩
/-- the symbols as numbers -/
def mI (M : List Nat) : List Int := M.map fun s => ((s : Nat) : Int)
/-- a writer, and the row of what was written -/
structure BackIn (w5 w : World) (p : Nat) (l : List Int) (M : List Nat) (D : Option Addr) (len cap gm mc : Nat) : Prop where
  wr : Wr w p D len cap (encM l M).length (encM l M)
  mine : w.ownsRow (p + 1) 3 1 (.slice (some ⟨gm, 0, none⟩) M.length mc) M.length (iC (mI M))
  apart : (Value.slice D len cap).ownBlock ≠ some gm
  bel : Below p w5 w
  ok : Hid (∀ s ∈ M, s < l.length ∧ 0 < gi l s)
theorem BackIn.drewN {w5 w : World} {p : Nat} {l : List Int} {M : List Nat} {D : Option Addr} {len cap gm mc : Nat} (h : BackIn w5 w p l M D len cap gm mc) (q : Nat) : BackIn w5 (w.drewN q) p l M D len cap gm mc := ⟨h.wr.drewN q, h.mine, h.apart, below_drewN h.bel q, h.ok⟩
theorem BackIn.ne {w5 w : World} {p : Nat} {l : List Int} {M : List Nat} {D : Option Addr} {len cap gm mc : Nat} (h : BackIn w5 w p l M D len cap gm mc) : gm ≠ p ∧ gm < w.heap.size := by
  have := h.mine.lt gm rfl
  omega
theorem mI_length (M : List Nat) : (mI M).length = M.length := by simp [mI]
theorem mI_at {M : List Nat} {k s : Nat} (h : M[k]? = some s) : (iC (mI M))[k]? = some (.int .i64 ((s : Nat) : Int)) := by simp [iC, mI, h]
theorem mI_snoc (M : List Nat) (s : Nat) : iC (mI (M ++ [s])) = iC (mI M) ++ [.int .i64 ((s : Nat) : Int)] := by simp [iC, mI]
set_option maxRecDepth 1000000 in
set_option maxHeartbeats 8000000 in
theorem walk_CanonBack (w : World) (A : Option Addr) (n ca : Nat) (l : List Int) (hl : IRow w A n .i64 l) (B : Option Addr) (m cb : Nat) (rl : List Int) (hb : IRow w B m .i64 rl) :
    Calls Try.prog 5 #[.slice A n ca, .slice B m cb] w fun e w' => e = .returned (.bool true) ∧ Below w.heap.size w w' := by
  have hnm := hl.max'
  have hmm := hb.max'
  by_cases h40 : (40 : Int) < (n : Int)
  · go_enter Try.func5, Try.ntmps5
    go_wp2_with (go_at_call 8; refine (alive10_c _).mono ?_; rintro e w1 ⟨rfl, hb1⟩)
    go_ret
    exact ⟨rfl, hb1⟩
  by_cases h30 : (40 : Int) < (m : Int)
  · go_enter Try.func5, Try.ntmps5
    go_wp2_with (go_at_call 8; refine (alive10_c _).mono ?_; rintro e w1 ⟨rfl, hb1⟩)
    go_ret
    exact ⟨rfl, hb1⟩
  have d1 : decide ((40 : Int) < (n : Int)) = false := decide_eq_false h40
  have d2 : decide ((40 : Int) < (m : Int)) = false := decide_eq_false h30
  have hn40 : n ≤ 40 := by omega
  have hm40 : m ≤ 40 := by omega
  obtain ⟨i0, hi, hz0, hz1, hz2⟩ := info_parts info_int
  by_cases herr : errC l n = 0
  · have HE := Lib.hid herr
    clear herr
    go_enter Try.func5, Try.ntmps5
    go_wp2_with (go_at_call 8; refine (alive10_c _).mono ?_; rintro e w1 ⟨rfl, hB1⟩)
    have hl1 := hl.below hB1
    refine (New_ok A n ca l w1 hl1 HE.out).mono ?_
    rintro e w2 ⟨p, gc, LA, lc, S, rfl, hT2, hb2⟩
    have hB2 := hB1.trans (hb2.mono hB1.size)
    have HOK := Lib.hid hT2.ok
    have hlen := hT2.ok.len
    have HLEN := Lib.hid hlen
    clear hb2 hl1 hB1 hlen
    have HCT : Hid (∀ (W : World) (i : Nat), i < n → TabIn W p n l gc LA lc S → Calls Try.prog 12 #[.pointer (some ⟨p, 0, none⟩), .int .i64 (i : Int)] W fun e w' => e = .returned (.tuple #[.int .u32 (codeN l i), .int .i64 (lnN l i)]) ∧ ∃ q, w' = W.drewN q) := fun W i hi' hT => by
      have h1 := CodeT_c hT (i : Int)
      rw [show codeAt l (i : Int) = codeN l i by unfold codeAt; rw [if_pos (by have := HLEN.out; omega)]; rfl, show lenAt l (i : Int) = lnN l i by unfold lenAt; rw [if_pos (by have := HLEN.out; omega)]; rfl] at h1
      exact h1
    go_wp2
    go_loopw [43] (fun i wr => ∃ k q : Nat, k ≤ n ∧ i = .int .i64 k ∧ Hid (wr = w2.drewN q)) (fun i _ => n - (intOf i).toNat)
    case atStart => exact ⟨0, 0, by omega, rfl, rfl⟩
    case round =>
      obtain ⟨i, q, hi', rfl, hw⟩ := hrel
      by_cases hlt : i < n
      · have hin : (i : Int) < n := by omega
        go_wp2
        go_loopw [48] (fun i wr => ∃ k q : Nat, k ≤ n ∧ i = .int .i64 k ∧ Hid (wr = w2.drewN q)) (fun i _ => n - (intOf i).toNat)
        case atStart => exact ⟨0, q, by omega, rfl, hw⟩
        case round =>
          clear hw
          obtain ⟨k, q, hk, rfl, hw⟩ := hrel
          by_cases hlk : k < n
          · have hkn : (k : Int) < n := by omega
            have hT3 : TabIn wr p n l gc LA lc S := by rw [hw.out]; exact hT2.drewN q
            have C1 := Lib.hid (HCT.out wr i hlt hT3)
            have C2 := Lib.hid (fun x => HCT.out (wr.drewN x) k hlk (hT3.drewN x))
            have hri := lnN_int HOK.out.right (i := i) (by rw [HLEN.out]; exact hlt)
            have hrk := lnN_int HOK.out.right (i := k) (by rw [HLEN.out]; exact hlk)
            have hap : i ≠ k → 0 < lnN l i → lnN l i ≤ lnN l k → codeN l k / 2 ^ (lnN l k - lnN l i) ≠ codeN l i := fun h1 h2 h3 => codeN_apart HOK.out.right (by rw [HLEN.out]; exact HOK.out.fit) (by rw [HLEN.out]; exact hlt) (by rw [HLEN.out]; exact hlk) (by omega) h3 h1
            obtain ⟨a, ha⟩ : ∃ a, a = codeN l i := ⟨_, rfl⟩
            obtain ⟨y, hy⟩ : ∃ y, y = lnN l i := ⟨_, rfl⟩
            obtain ⟨b, hb'⟩ : ∃ b, b = codeN l k := ⟨_, rfl⟩
            obtain ⟨v, hv⟩ : ∃ v, v = lnN l k := ⟨_, rfl⟩
            have hy15 := hri.2
            have hv15 := hrk.2
            rw [← ha, ← hy] at C1
            rw [← hb', ← hv] at C2
            rw [← ha, ← hy, ← hb', ← hv] at hap
            rw [← hy] at hy15
            rw [← hv] at hv15
            clear hri hrk ha hy hb' hv hT3
            have hways : (((i : Int) != (k : Int)) = false) ∨ (((i : Int) != (k : Int)) = true ∧ y = 0) ∨ (((i : Int) != (k : Int)) = true ∧ 0 < y ∧ v < y) ∨ (((i : Int) != (k : Int)) = true ∧ 0 < y ∧ y ≤ v ∧ ((b : Int) / 2 ^ (v - y) == (a : Int)) = false) := by
              by_cases h1 : i = k
              · exact .inl (by rw [h1]; simp)
              · have h2 : ((i : Int) != (k : Int)) = true := by rw [bne_iff_ne]; omega
                by_cases h3 : y = 0
                · exact .inr (.inl ⟨h2, h3⟩)
                · by_cases h4 : v < y
                  · exact .inr (.inr (.inl ⟨h2, by omega, h4⟩))
                  · refine .inr (.inr (.inr ⟨h2, by omega, by omega, ?_⟩))
                    rw [beq_eq_false_iff_ne]
                    intro h5
                    refine hap h1 (by omega) (by omega) ?_
                    have h6 : ((b / 2 ^ (v - y) : Nat) : Int) = (a : Int) := by rw [← h5]; simp
                    omega
            clear hap
            rcases hways with h1 | ⟨h1, rfl⟩ | ⟨h1, h2, h3⟩ | ⟨h1, h2, h3, h4⟩
            · go_wp2_with (first
                | (go_at_call 12; first
                   | (with_reducible refine C1.out.mono ?_; rintro e _ ⟨rfl, q1, rfl⟩)
                   | (with_reducible refine (C2.out q1).mono ?_; rintro e _ ⟨rfl, q2, rfl⟩)))
              go_roundw
              case rel => exact ⟨k + 1, _, by omega, by go_num, by unfold Hid; rw [hw.out]; simp only [World.drewN_drewN]; rfl⟩
              case measure => simp [intOf]; omega
            · go_wp2_with (first
                | (go_at_call 12; first
                   | (with_reducible refine C1.out.mono ?_; rintro e _ ⟨rfl, q1, rfl⟩)
                   | (with_reducible refine (C2.out q1).mono ?_; rintro e _ ⟨rfl, q2, rfl⟩)))
              go_roundw
              case rel => exact ⟨k + 1, _, by omega, by go_num, by unfold Hid; rw [hw.out]; simp only [World.drewN_drewN]; rfl⟩
              case measure => simp [intOf]; omega
            · have hyd : decide (0 < y) = true := decide_eq_true h2
              have hyd2 : decide ((0 : Int) < (y : Int)) = true := decide_eq_true (by omega)
              have hvd : decide (y ≤ v) = false := decide_eq_false (by omega)
              have hvd2 : decide ((y : Int) ≤ (v : Int)) = false := decide_eq_false (by omega)
              go_wp2_with (first
                | (go_at_call 12; first
                   | (with_reducible refine C1.out.mono ?_; rintro e _ ⟨rfl, q1, rfl⟩)
                   | (with_reducible refine (C2.out q1).mono ?_; rintro e _ ⟨rfl, q2, rfl⟩)))
              go_roundw
              case rel => exact ⟨k + 1, _, by omega, by go_num, by unfold Hid; rw [hw.out]; simp only [World.drewN_drewN]; rfl⟩
              case measure => simp [intOf]; omega
            · have hyd : decide (0 < y) = true := decide_eq_true h2
              have hyd2 : decide ((0 : Int) < (y : Int)) = true := decide_eq_true (by omega)
              have hvd : decide (y ≤ v) = true := decide_eq_true (by omega)
              have hvd2 : decide ((y : Int) ≤ (v : Int)) = true := decide_eq_true (by omega)
              obtain ⟨d, hd⟩ : ∃ d, d = v - y := ⟨_, rfl⟩
              rw [← hd] at h4
              have hsub : (v : Int) - (y : Int) = (d : Int) := by omega
              clear hd
              go_wp2_with (first
                | (go_at_call 12; first
                   | (with_reducible refine C1.out.mono ?_; rintro e _ ⟨rfl, q1, rfl⟩)
                   | (with_reducible refine (C2.out q1).mono ?_; rintro e _ ⟨rfl, q2, rfl⟩)))
              go_roundw
              case rel => exact ⟨k + 1, _, by omega, by go_num, by unfold Hid; rw [hw.out]; simp only [World.drewN_drewN]; rfl⟩
              case measure => simp [intOf]; omega
          · obtain rfl : k = n := by omega
            go_wp2
            go_roundw
            case rel => exact ⟨i + 1, q, by omega, by go_num, hw⟩
            case measure => simp [intOf]; omega
      · obtain rfl : i = n := by omega
        have hT5 : TabIn wr p i l gc LA lc S := by rw [hw.out]; exact hT2.drewN q
        have hB5 : Below w.heap.size w wr := by rw [hw.out]; exact below_drewN hB2 q
        have hb5 := hb.below hB5
        clear hT2 hB2 hw hb hl
        have HOK2 := Lib.hid HOK.out
        have hszw : w.heap.size ≤ wr.heap.size := hB5.size
        have hI0 : BackIn wr ((wr.alloc (.cells #[.slice none 0 0, .int .i64 0] 48)).alloc (.cells #[] 3)) wr.heap.size l [] none 0 0 (wr.heap.size + 1) 0 := by
          refine ⟨(Wr.zero wr _ rfl).below ((Below.refl _ _).alloc (Nat.le_refl _) _), ?_, (fun e => by cases e), ((Below.refl _ _).alloc (Nat.le_refl _) _).alloc (by simp) _, (fun s hs => by cases hs)⟩
          have h1 := World.ownsRow_made (e := 3) (size := 1) (wr.alloc (.cells #[.slice none 0 0, .int .i64 0] 48)) #[] 0 (Nat.le_refl _) (Nat.zero_le _) rfl
          have hs : (wr.alloc (.cells #[.slice none 0 0, .int .i64 0] 48)).heap.size = wr.heap.size + 1 := by simp
          rw [hs] at h1
          exact h1
        go_wp2
        obtain ⟨nn, hnn⟩ : ∃ nn, nn = i := ⟨_, rfl⟩
        subst hnn
        obtain ⟨pw, hpw⟩ : ∃ pw, pw = wr.heap.size := ⟨_, rfl⟩
        rw [← hpw] at hI0 hszw ⊢
        have HPW := Lib.hid hpw
        clear hpw
        generalize wr = W5 at *
        go_loopw [14, 89] (fun mn i W => ∃ (k : Nat) (M : List Nat) (D : Option Addr) (dl dc gm mc : Nat), k ≤ m ∧ M.length ≤ k ∧ i = .int .i64 k ∧ mn = .slice (some ⟨gm, 0, none⟩) M.length mc ∧ BackIn W5 W pw l M D dl dc gm mc) (fun _ i _ => m - (intOf i).toNat)
        case atStart => exact ⟨0, [], none, 0, 0, _, 0, by omega, Nat.le_refl _, rfl, rfl, hI0⟩
        case round =>
          clear hI0
          obtain ⟨k, M, D, dl, dc, gm, mc, hkm, hMk, rfl, rfl, hI⟩ := hrel
          have hTW := hT5.below (by rw [← HPW.out]; exact hI.bel)
          by_cases hlt : k < m
          · have hkmi : (k : Int) < m := by omega
            obtain ⟨b1, o1, rfl, _, q1⟩ := (hb5.below (by rw [← HPW.out]; exact hI.bel)).at_ hlt
            generalize gi rl k = z at *
            have hcz := CodeT_c hTW z
            by_cases hz : lenAt l z = 0
            · rw [hz] at hcz
              generalize codeAt l z = x at *
              have HCZ := Lib.hid hcz
              clear hcz hz hTW
              go_wp2_with (go_at_call 12; refine HCZ.out.mono ?_; rintro e _ ⟨rfl, q, rfl⟩)
              go_roundw
              case rel => exact ⟨k + 1, M, D, dl, dc, gm, mc, by omega, by omega, by go_num, rfl, hI.drewN q⟩
              case measure => simp [intOf]; omega
            · obtain ⟨hz0', hzn⟩ : 0 ≤ z ∧ z < l.length := by
                unfold lenAt at hz
                split at hz
                · assumption
                · exact absurd rfl hz
              obtain ⟨s, rfl⟩ : ∃ s : Nat, z = s := ⟨z.toNat, by omega⟩
              have hsl : s < l.length := by omega
              have e1 : lenAt l (s : Int) = lnN l s := by unfold lenAt; rw [if_pos ⟨hz0', hzn⟩]; rfl
              have e2 : codeAt l (s : Int) = codeN l s := by unfold codeAt; rw [if_pos ⟨hz0', hzn⟩]; rfl
              rw [e1] at hz hcz
              rw [e2] at hcz
              have h3 := lnN_int HOK2.out.right hsl
              have h4 := codeN_lt HOK2.out.right (by rw [HLEN.out]; exact HOK2.out.fit) hsl (by omega)
              have hME : (encM l M).length ≤ 600 := by
                have h5 := encM_length_le l M (fun x hx => (lnN_int HOK2.out.right (hI.ok.out x hx).1).2)
                omega
              have hxs : codeN l s < 4294967296 := by
                have h6 := Nat.pow_le_pow_right (n := 2) (by decide) h3.2
                have h7 : (2 : Nat) ^ 15 = 32768 := rfl
                omega
              have hok2 : Hid (∀ x ∈ M ++ [s], x < l.length ∧ 0 < gi l x) := fun x hx => by
                rw [List.mem_append, List.mem_singleton] at hx
                rcases hx with hx | rfl
                · exact hI.ok.out x hx
                · exact ⟨hsl, by omega⟩
              have henc := Lib.hid (encM_snoc l M s)
              obtain ⟨y, hy⟩ : ∃ y, y = lnN l s := ⟨_, rfl⟩
              obtain ⟨x, hx⟩ : ∃ x, x = codeN l s := ⟨_, rfl⟩
              rw [← hy, ← hx] at hcz henc
              rw [← hy] at hz
              rw [← hx] at hxs
              have hy15 : y ≤ 15 := by rw [hy]; exact h3.2
              have hcode := fun W (hw : Wr W pw D dl dc (encM l M).length (encM l M)) => CodeB_c hw x hxs (y : Int) (by omega)
              rw [show heldN (y : Int) 32 = y by unfold heldN; omega] at hcode
              have HCODE := Lib.hid hcode
              have HCZ := Lib.hid hcz
              have hyi : (0 : Int) < (y : Int) := by omega
              have HME := Lib.hid hME
              clear hcz hz hTW hcode hx hy e1 e2 h3 h4 hME hsl
              go_wp2_with (go_at_call 12; refine HCZ.out.mono ?_; rintro e _ ⟨rfl, q, rfl⟩)
              have hI1 := hI.drewN q
              refine (HCODE.out _ hI1.wr).mono ?_
              rintro e W2 ⟨rfl, D2, dl2, dc2, hW2, hO2⟩
              have hgm := hI1.ne
              have hmine2 := own_wout2 hO2 hI1.mine (fun g hg => by
                have e : g = gm := by injection hg with hg; exact hg.symm
                subst e
                exact ⟨hgm.1, hI1.apart⟩)
              have hap2 : (Value.slice D2 dl2 dc2).ownBlock ≠ some gm := by
                rcases hO2.nw with h1 | h1
                · rw [h1]; exact hI1.apart
                · intro h2
                  have := h1 gm h2
                  have := hgm.2
                  omega
              have hbel2 : Below pw W5 W2 := hI1.bel.trans (hO2.low (Nat.le_refl _) hI1.wr.lt hI1.wr.alo)
              have hs2 : pw + 1 ≤ W2.heap.size := by have := hW2.lt; omega
              have hMk40 : M.length ≤ 40 := by omega
              clear hI hI1 hO2
              go_wp2_with (at_builtin; refine wpList_append_lies _ rfl (.tmp 104) (.tmp 106) 22 rfl (pw + 1) 3 i0 (.int .i64 0) 1 8 Try.underlying22 hi hz0 hz1 hz2 rfl (by decide) (.slice (some ⟨gm, 0, none⟩) M.length mc) M.length (iC (mI M)) rfl (hmine2.alloc _) ⟨W2.heap.size, 0, none⟩ 1 1 [.int .i64 s] rfl rfl (one_cell W2 _ _) (by intro u hu; simp at hu; subst hu; rfl) (by decide) (by unfold maxLen; omega) (by omega) (by simp; omega) (W2.heap.size + 1) (by simp) ?_; intro g3 mc3 W3 hown3 hg3 hat3 hlt3)
              have hI3 : BackIn W5 W3 pw l (M ++ [s]) D2 dl2 dc2 g3 mc3 := by
                have hrow : (Value.slice (some (⟨gm, 0, none⟩ : Addr)) M.length mc).ownBlock = some gm := rfl
                rw [hrow] at hg3 hat3
                refine ⟨?_, ?_, ?_, ?_, hok2⟩
                · have h1 := Wr.kept (hW2.below ((Below.refl _ W2).alloc (Nat.le_refl _) (.cells #[.int .i64 (s : Int)] 3))) hg3 (fun e => hgm.1 (by injection e)) (fun g hg e => hap2 (by rw [hg, ← e]))
                  rw [henc.out, List.length_append, codeB_length]
                  exact h1
                · rw [mI_snoc, List.length_append]
                  exact hown3
                · intro h1
                  rcases hat3 with h2 | h2
                  · injection h2 with h2
                    subst h2
                    exact hap2 h1
                  · have := (hW2.own.lt g3 h1).2
                    omega
                · exact (hbel2.alloc (by omega) (.cells #[.int .i64 (s : Int)] 3)).grown hg3 (by simp; omega) (fun x hx => by
                    injection hx with hx
                    have := (hmine2.lt gm rfl).1
                    omega)
              clear hown3 hg3 hat3 hlt3 hmine2 hap2 hbel2 hW2
              go_wp2
              go_roundw
              case rel => exact ⟨k + 1, M ++ [s], D2, dl2, dc2, g3, mc3, by omega, by rw [List.length_append]; simp; omega, by go_num, by rw [List.length_append]; rfl, hI3⟩
              case measure => simp [intOf]; omega
          · obtain rfl : k = m := by omega
            have hBW : Below w.heap.size w wr := hB5.trans (hI.bel.mono hszw)
            have hI' := Lib.hid hI
            have hgm := hI.ne
            have h8 := hI.wr.at8
            have hME : (encM l M).length ≤ 600 := by
              have h5 := encM_length_le l M (fun x hx => (lnN_int HOK2.out.right (hI.ok.out x hx).1).2)
              omega
            have hdl : dl ≤ 200 := by omega
            have hfm : Hid (∀ j s, M[j]? = some s → wr.cell? ⟨gm, j, none⟩ = some (.int .i64 ((s : Nat) : Int))) := fun j s hj => by
              rw [hI.mine.cellAt j (by have := (List.getElem?_eq_some_iff.1 hj).1; omega), mI_at hj]
            have hMl : M.length ≤ 9223372036854775807 := by omega
            clear hI
            go_wp2_with (first
              | (go_at_call 19; refine (DoneB_c hI'.out.wr).mono ?_; rintro e W6 ⟨A6, c6, rfl, hown6, hb6⟩; have hT6 := hTW.below hb6; have hrow6 := (own_in hown6).row)
              | (go_at_call 13; refine (ReadB_c A6 dl c6 (pack (encM l M)) _ hrow6 (by omega)).mono ?_; rintro e W7 ⟨r, RA, rc, rfl, hR7, hr7, hb7⟩))
            have hT7 := hT6.below hb7
            have hfar := hT6.far hr7
            have hb67 := hb6.trans (hb7.mono hb6.size)
            have hW7 := hI'.out.wr.below hb67
            have hB7 := hBW.trans (hb67.mono hBW.size)
            have hlow : w.heap.size ≤ r := by have := hBW.size; have := hb6.size; omega
            have hpr : pw ≠ r := by have := hI'.out.wr.lt; have := hb6.size; omega
            have hDr : ∀ g, (Value.slice D dl dc).ownBlock = some g → g ≠ r := fun g hg => by have := hI'.out.wr.alt g hg; have := hb6.size; omega
            have hgr : gm ≠ r := by have := hgm.2; have := hb6.size; omega
            have hc7 : ∀ j s, M[j]? = some s → gm < W7.heap.size ∧ W7.cell? ⟨gm, j, none⟩ = some (.int .i64 ((s : Nat) : Int)) := fun j s hj => ⟨by have := hgm.2; have := hb67.size; omega, (hb67.cell (p := ⟨gm, j, none⟩) hgm.2).trans (hfm.out j s hj)⟩
            have HENC := Lib.hid (fun (k s : Nat) (h : M[k]? = some s) => read_enc HOK2.out.right (by rw [HLEN.out]; exact HOK2.out.fit) hI'.out.ok.out h h8.1)
            have hrb : rb (pack (encM l M)) = gbit (encM l M) := funext fun i => rb_pack _ i
            clear hT6 hTW hown6 hrow6 hb6 hb7 hb67 hBW hI' hfm hgm
            go_wp2
            go_loopw [113] (fun i W => ∃ (j : Nat), j ≤ M.length ∧ i = .int .i64 j ∧ TabIn W p nn l gc LA lc S ∧ RdB W r RA dl rc (pack (encM l M)) (encM l (M.take j)).length ∧ (∀ j s, M[j]? = some s → gm < W.heap.size ∧ W.cell? ⟨gm, j, none⟩ = some (.int .i64 ((s : Nat) : Int))) ∧ Wr W pw D dl dc (encM l M).length (encM l M) ∧ Below w.heap.size w W) (fun i _ => M.length - (intOf i).toNat)
            case atStart => exact ⟨0, by omega, rfl, hT7, hR7, hc7, hW7, hB7⟩
            case round =>
              clear hT7 hR7 hc7 hW7 hB7
              obtain ⟨j, hj, rfl, hT, hR, hc, hW, hB⟩ := hrel
              by_cases hlt : j < M.length
              · have hji : (j : Int) < (M.length : Int) := by omega
                obtain ⟨s, hs⟩ : ∃ s, M[j]? = some s := ⟨_, List.getElem?_eq_getElem hlt⟩
                obtain ⟨hgl, q1⟩ := hc j s hs
                have HCC := Lib.hid hc
                clear hc
                obtain ⟨hrd, hnx⟩ := HENC.out j s hs
                have HRD := Lib.hid hrd
                have HNX := Lib.hid hnx
                clear hrd hnx hs
                go_wp2_with fail
                refine (ReadT_c hT hR hfar).mono ?_
                rintro e W8 ⟨s', q, er, rfl, hrd', hR8, hO8⟩
                rw [hrb] at hrd'
                obtain ⟨rfl, rfl, rfl⟩ := RdS.unique HOK2.out.right (by rw [HLEN.out]; exact HOK2.out.fit) hrd' HRD.out
                have hT8 := hT.out hfar hO8
                have hB8 := hB.trans (hO8.lowAt hlow hR.lt)
                have hW8 := hW.outOf hO8 hpr hDr
                have hc8 : ∀ j s, M[j]? = some s → gm < W8.heap.size ∧ W8.cell? ⟨gm, j, none⟩ = some (.int .i64 ((s : Nat) : Int)) := fun j s hj => by
                  obtain ⟨h1, h2⟩ := HCC.out j s hj
                  refine ⟨by have := hO8.size; omega, ?_⟩
                  rw [World.cell?_of_block (a := ⟨gm, j, none⟩) (hO8.block gm h1 (by omega))]
                  exact h2
                have hR9 := hR8
                rw [← HNX.out] at hR9
                have hss : ((s' : Int) != (s' : Int)) = false := by simp
                have HC8 := Lib.hid hc8
                clear hrd' hT hR hW hB hO8 hR8 q1 hc8
                go_wp2
                go_roundw
                case rel => exact ⟨j + 1, by omega, by go_num, hT8, hR9, HC8.out, hW8, hB8⟩
                case measure => simp [intOf]; omega
              · obtain rfl : j = M.length := by omega
                rw [List.take_length] at hR
                clear hc
                go_wp2_with (first
                  | (go_at_call 17; refine (AtB_c hR).mono ?_; rintro e _ ⟨rfl, rfl⟩)
                  | (go_at_call 20; refine (LenB_c hW).mono ?_; rintro e _ ⟨rfl, rfl⟩))
                go_ret
                exact ⟨rfl, hB⟩
  · obtain ⟨x, hx⟩ : ∃ x, x = errC l n := ⟨_, rfl⟩
    have hnew := fun W h => New_no A n ca l W h herr
    rw [← hx] at hnew herr
    have HN := Lib.hid hnew
    have hne : ((x : Int) != 0) = true := by rw [bne_iff_ne]; omega
    clear hnew hx herr
    go_enter Try.func5, Try.ntmps5
    go_wp2_with (go_at_call 8; refine (alive10_c _).mono ?_; rintro e w1 ⟨rfl, hB1⟩)
    have hl1 := hl.below hB1
    refine (HN.out w1 hl1).mono ?_
    rintro e w2 ⟨rfl, hb2⟩
    have hB2 := hB1.trans (hb2.mono hB1.size)
    go_wp2
    go_ret
    exact ⟨rfl, hB2⟩
end Go.Proofs.Ytanhgjaokgnlhaa
