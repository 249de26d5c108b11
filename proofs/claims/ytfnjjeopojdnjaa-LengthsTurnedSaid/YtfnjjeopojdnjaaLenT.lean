/-
  THE CONTRACT OF slices' symMerge with lengths' own comparison. No conditions. (Under way.)
-/
import Derived.Test.YtfnjjeopojdnjaaLenS
namespace Go.Proofs.Ytfnjjeopojdnjaa
open Go.RowKit
set_option maxRecDepth 100000
set_option linter.unusedVariables false

/-- what stood at a stands at k, all between one ahead -/
def mvR (d : Nat → Nat) (a k : Nat) : Nat → Nat := fun x => if x = k then d a else if a ≤ x ∧ x < k then d (x + 1) else d x
theorem mvR_zero (d : Nat → Nat) (a : Nat) : mvR d a a = d := by
  funext x
  unfold mvR
  split
  · rename_i e; rw [e]
  · rw [if_neg (by omega)]
theorem mvR_succ (d : Nat → Nat) (a k : Nat) (h : a ≤ k) : swD (mvR d a k) k (k + 1) = mvR d a (k + 1) := by
  funext x
  unfold swD mvR
  repeat' split
  all_goals first
    | omega
    | rfl
    | (congr 1; omega)
theorem mvR_srt {K : Nat → Int} {d : Nat → Nat} {a i b : Nat} (hai : a + 1 ≤ i) (hib : i ≤ b) (hs : SrtI K d (a + 1) b) (h1 : ∀ x, a + 1 ≤ x → x < i → K (d x) < K (d a)) (h2 : ∀ x, i ≤ x → x < b → K (d a) ≤ K (d x)) : SrtI K (mvR d a (i - 1)) a b := by
  intro x y hx hxy hy
  have e1 : ∀ z, z < i - 1 → a ≤ z → mvR d a (i - 1) z = d (z + 1) := fun z h3 h4 => by unfold mvR; rw [if_neg (by omega), if_pos ⟨h4, h3⟩]
  have e2 : mvR d a (i - 1) (i - 1) = d a := if_pos rfl
  have e3 : ∀ z, i ≤ z → mvR d a (i - 1) z = d z := fun z h3 => by unfold mvR; rw [if_neg (by omega), if_neg (by omega)]
  rcases Nat.lt_trichotomy x (i - 1) with h3 | h3 | h3
  · rw [e1 x h3 hx]
    rcases Nat.lt_trichotomy y (i - 1) with h4 | h4 | h4
    · rw [e1 y h4 (by omega)]; exact hs _ _ (by omega) (by omega) (by omega)
    · rw [h4, e2]; exact Int.le_of_lt (h1 _ (by omega) (by omega))
    · rw [e3 y (by omega)]; exact hs _ _ (by omega) (by omega) hy
  · rw [h3, e2, e3 y (by omega)]
    exact h2 y (by omega) hy
  · rw [e3 x (by omega), e3 y (by omega)]
    exact hs _ _ (by omega) hxy hy
theorem swD_sym {d : Nat → Nat} {u v m n : Nat} (hu : u < m) (hv : v < m) (h : ∀ i, i < m → d i < n) : ∀ i, i < m → swD d u v i < n := fun i hi => by
  unfold swD
  split
  · exact h v hv
  · split
    · exact h u hu
    · exact h i hi
theorem swD_row {w : World} {g m : Nat} {d : Nat → Nat} (h : DRow w g m d) (u v : Nat) (hne : u ≠ v) : DRow ((w.setCell ⟨g, u, none⟩ (.int .i64 ((d v : Nat) : Int))).setCell ⟨g, v, none⟩ (.int .i64 ((d u : Nat) : Int))) g m (swD d u v) := by
  refine ((RowV.set h u _).set v _).congr fun x hx => ?_
  unfold swD
  by_cases e1 : x = v
  · subst e1
    rw [if_pos rfl, if_neg (Ne.symm hne), if_pos rfl]
  · rw [if_neg e1]
    by_cases e2 : x = u
    · subst e2
      rw [if_pos rfl, if_pos rfl]
    · rw [if_neg e2, if_neg e2, if_neg e1]
set_option maxRecDepth 1000000 in
set_option maxHeartbeats 4000000 in
theorem symMerge_left {w : World} {g m cg q n c : Nat} {A : Option Addr} {fr : List Int} {d : Nat → Nat} (h : CtxS w g m q A n c fr d) (hm : m ≤ 1000) (a e b : Nat) (hae : e = a + 1) (heb : e < b) (hbm : b ≤ m) (hs : SrtI (gi fr) d e b) :
    Calls Try.prog 38 #[.slice (some ⟨g, 0, none⟩) m cg, .int .i64 a, .int .i64 e, .int .i64 b, .func (.func 29) #[] #[.pointer (some ⟨q, 0, none⟩)]] w fun e' w' => ∃ d', e' = .returned (.tuple #[]) ∧ CtxS w' g m q A n c fr d' ∧ SameI d d' a b ∧ SrtI (gi fr) d' a b ∧ Out g (g + 1) w w' := by
  have h1 : IntKind.i64.wrap ((e : Int) - (a : Int)) = 1 := (IntWalk.i64_in _ (by omega)).trans (by omega)
  have h1' : (e : Int) - (a : Int) = 1 := by omega
  have HAE := Lib.hid hae
  have HS := Lib.hid hs
  have ham : (a : Int) < (m : Int) := by omega
  clear hae hs
  go_enter Try.func38, Try.ntmps38
  go_wp2
  go_loopw [10, 11] (fun vi vj wr => ∃ (i j k : Nat), e ≤ i ∧ i ≤ j ∧ j ≤ b ∧ vi = .int .i64 i ∧ vj = .int .i64 j ∧ Hid (wr = w.drewN k) ∧ Hid ((∀ x, e ≤ x → x < i → gi fr (d x) < gi fr (d a)) ∧ (∀ x, j ≤ x → x < b → gi fr (d a) ≤ gi fr (d x)))) (fun vi vj _ => (intOf vj).toNat - (intOf vi).toNat)
  case atStart => exact ⟨e, b, 0, Nat.le_refl _, by omega, Nat.le_refl _, rfl, rfl, rfl, ⟨fun x h1 h2 => by omega, fun x h1 h2 => by omega⟩⟩
  case round =>
    obtain ⟨i, j, k, hei, hij, hjb, rfl, rfl, hw, hinv⟩ := hrel
    have hctx : CtxS wr g m q A n c fr d := by rw [hw.out]; exact h.drewN k
    by_cases hlt : i < j
    · have hlti : (i : Int) < (j : Int) := by omega
      obtain ⟨y, hy⟩ : ∃ y, y = (i + j) / 2 := ⟨_, rfl⟩
      have hyi : ((i : Int) + (j : Int)) / 2 = (y : Int) := by omega
      have hym : (y : Int) < (m : Int) := by omega
      have hc1 := hctx.row.cell (i := y) (by omega)
      have hc2 := hctx.row.cell (i := a) (by omega)
      have hcmp := fun k => rarest_c (hctx.fq.drewN k) (d y) (d a) (hctx.sym y (by omega)) (hctx.sym a (by omega))
      obtain ⟨z, hz⟩ : ∃ z, z = cmpI (gi fr (d y)) (gi fr (d a)) := ⟨_, rfl⟩
      have hzn := cmpI_neg (gi fr (d y)) (gi fr (d a))
      rw [← hz] at hzn
      simp only [← hz] at hcmp
      have HC := Lib.hid hcmp
      have HY : Hid (i ≤ y ∧ y < j) := by unfold Hid; omega
      by_cases hless : gi fr (d y) < gi fr (d a)
      · have hz0 := hzn.2 hless
        have hinv2 : Hid ((∀ x, e ≤ x → x < y + 1 → gi fr (d x) < gi fr (d a)) ∧ (∀ x, j ≤ x → x < b → gi fr (d a) ≤ gi fr (d x))) := ⟨fun x h2 h3 => by
          by_cases e1 : x = y
          · rw [e1]; exact hless
          · have := HS.out x y h2 (by omega) (by omega); omega, hinv.out.2⟩
        clear hy hz hzn hless hcmp hinv hctx
        generalize d y = x1 at *
        generalize d a = x2 at *
        go_wp2
        go_region_held3 (fun w' => w'.cell? ⟨g, y, none⟩ = some (.int .i64 x1) ∧ w'.cell? ⟨g, a, none⟩ = some (.int .i64 x2)) (go_keep)
          ((go_at_call 29; refine (HC.out 1).mono ?_; rintro e _ ⟨rfl, k1, rfl⟩))
        go_wp2
        go_roundw
        case rel => exact ⟨y + 1, j, _, by have := HY.out; omega, by have := HY.out; omega, hjb, by go_num, rfl, by unfold Hid; rw [hw.out, World.drewN_drewN], hinv2⟩
        case measure => have := HY.out; simp [intOf]; omega
      · have hz0 : ¬ z < 0 := fun e => hless (hzn.1 e)
        have hinv2 : Hid ((∀ x, e ≤ x → x < i → gi fr (d x) < gi fr (d a)) ∧ (∀ x, y ≤ x → x < b → gi fr (d a) ≤ gi fr (d x))) := ⟨hinv.out.1, fun x h2 h3 => by
          by_cases e1 : x = y
          · rw [e1]; omega
          · have := HS.out y x (by omega) (by omega) h3; omega⟩
        clear hy hz hzn hless hcmp hinv hctx
        generalize d y = x1 at *
        generalize d a = x2 at *
        go_wp2
        go_region_held3 (fun w' => w'.cell? ⟨g, y, none⟩ = some (.int .i64 x1) ∧ w'.cell? ⟨g, a, none⟩ = some (.int .i64 x2)) (go_keep)
          ((go_at_call 29; refine (HC.out 1).mono ?_; rintro e _ ⟨rfl, k1, rfl⟩))
        go_wp2
        go_roundw
        case rel => exact ⟨i, y, _, hei, by have := HY.out; omega, by have := HY.out; omega, rfl, rfl, by unfold Hid; rw [hw.out, World.drewN_drewN], hinv2⟩
        case measure => have := HY.out; simp [intOf]; omega
    · obtain rfl : i = j := by omega
      have hout : Out g (g + 1) w wr := by rw [hw.out]; exact Out.drewN _ _ _ _
      have hfin : Hid (SrtI (gi fr) (mvR d a (i - 1)) a b) := mvR_srt (by have := HAE.out; omega) hjb (by rw [← HAE.out]; exact HS.out) (fun x h2 h3 => hinv.out.1 x (by have := HAE.out; omega) h3) hinv.out.2
      obtain ⟨s, hs⟩ : ∃ s, s = i - 1 := ⟨_, rfl⟩
      rw [← hs] at hfin
      have hsi : IntKind.i64.wrap ((i : Int) - 1) = (s : Int) := (IntWalk.i64_in _ (by omega)).trans (by omega)
      have hsi' : (i : Int) - 1 = (s : Int) := by omega
      have HSB : Hid (a ≤ s ∧ s < b) := by have := HAE.out; unfold Hid; omega
      clear hinv hs
      go_wp2
      go_loopw [13] (fun vk W => ∃ k : Nat, a ≤ k ∧ k ≤ s ∧ vk = .int .i64 k ∧ CtxS W g m q A n c fr (mvR d a k) ∧ Hid (SameI d (mvR d a k) a b) ∧ Out g (g + 1) w W) (fun vk _ => s - (intOf vk).toNat)
      case atStart => exact ⟨a, Nat.le_refl _, HSB.out.1, rfl, by rw [mvR_zero]; exact hctx, by unfold Hid; rw [mvR_zero]; exact SameI.refl _ _ _, hout⟩
      case round =>
        clear hctx hout hw
        obtain ⟨k, hak, hks, rfl, hctx, hsame, hout⟩ := hrel
        by_cases hlt2 : k < s
        · have hki : (k : Int) < (s : Int) := by omega
          obtain ⟨v, hv⟩ : ∃ v, v = k + 1 := ⟨_, rfl⟩
          have hvi : IntKind.i64.wrap ((k : Int) + 1) = (v : Int) := (IntWalk.i64_in _ (by omega)).trans (by omega)
          have hsb := HSB.out
          have hkm : (k : Int) < (m : Int) := by omega
          have hvm : (v : Int) < (m : Int) := by omega
          have hc1 := hctx.row.cell (i := k) (by omega)
          have hc2 := hctx.row.cell (i := v) (by omega)
          have hf1 := hctx.row.frozen k
          have hf2 := hctx.row.frozen v
          have hkv : k ≠ v := by omega
          have HD := Lib.hid (swD_row hctx.row k v hkv)
          have HSY := Lib.hid (swD_sym (u := k) (v := v) (by omega) (by omega) hctx.sym)
          have hmv := mvR_succ d a k hak
          rw [← hv] at hmv
          have HMV := Lib.hid hmv
          have HSM : Hid (SameI d (mvR d a v) a b) := by
            unfold Hid
            rw [← HMV.out, hv]
            exact hsame.out.trans (swD_same _ hak (by omega))
          have HCTX := Lib.hid hctx
          have HVK : Hid (v = k + 1) := hv
          have hkv1 : (k == v) = false := by rw [beq_eq_false_iff_ne]; exact hkv
          have hkv2 : (v == k) = false := by rw [beq_eq_false_iff_ne]; exact Ne.symm hkv
          clear hv hmv hctx hsb
          generalize mvR d a k k = x1 at *
          generalize mvR d a k v = x2 at *
          go_wp2
          go_region
          go_wp2
          go_roundw
          case rel =>
            have ho : Out g (g + 1) wr _ := ((Out.refl g (g + 1) wr).setCell k (.int .i64 ((x2 : Nat) : Int))).setCell v (.int .i64 ((x1 : Nat) : Int))
            have hc := HCTX.out.step HD.out ho HSY.out
            rw [HMV.out] at hc
            exact ⟨v, by have := HVK.out; omega, by have := HVK.out; omega, rfl, hc.drewN 1, HSM, hout.trans (ho.trans (Out.drewN _ _ _ 1))⟩
          case measure => have := HVK.out; simp [intOf]; omega
        · obtain rfl : k = s := by omega
          go_wp2
          refine bodyPost_ret (results_none rfl _ _ _) rfl ?_
          exact ⟨_, rfl, hctx, hsame.out, hfin.out, hout⟩
/-- what stood at e stands at k, all between one behind -/
def mvL (d : Nat → Nat) (e k : Nat) : Nat → Nat := fun x => if x = k then d e else if k < x ∧ x ≤ e then d (x - 1) else d x
theorem mvL_zero (d : Nat → Nat) (e : Nat) : mvL d e e = d := by
  funext x
  unfold mvL
  split
  · rename_i h; rw [h]
  · rw [if_neg (by omega)]
theorem mvL_succ (d : Nat → Nat) (e k : Nat) (h : k + 1 ≤ e) : swD (mvL d e (k + 1)) k (k + 1) = mvL d e k := by
  funext x
  unfold swD mvL
  repeat' split
  all_goals first
    | omega
    | rfl
    | (congr 1; omega)
theorem mvL_srt {K : Nat → Int} {d : Nat → Nat} {a i e : Nat} (hai : a ≤ i) (hie : i ≤ e) (hs : SrtI K d a e) (h1 : ∀ x, a ≤ x → x < i → K (d x) ≤ K (d e)) (h2 : ∀ x, i ≤ x → x < e → K (d e) < K (d x)) : SrtI K (mvL d e i) a (e + 1) := by
  intro x y hx hxy hy
  have e1 : ∀ z, z < i → mvL d e i z = d z := fun z h3 => by unfold mvL; rw [if_neg (by omega), if_neg (by omega)]
  have e2 : mvL d e i i = d e := if_pos rfl
  have e3 : ∀ z, i < z → z ≤ e → mvL d e i z = d (z - 1) := fun z h3 h4 => by unfold mvL; rw [if_neg (by omega), if_pos ⟨h3, h4⟩]
  rcases Nat.lt_trichotomy x i with h3 | h3 | h3
  · rw [e1 x h3]
    rcases Nat.lt_trichotomy y i with h4 | h4 | h4
    · rw [e1 y h4]; exact hs _ _ hx hxy (by omega)
    · rw [h4, e2]; exact h1 x hx h3
    · rw [e3 y h4 (by omega)]; exact hs _ _ hx (by omega) (by omega)
  · rw [h3, e2, e3 y (by omega) (by omega)]
    exact Int.le_of_lt (h2 _ (by omega) (by omega))
  · rw [e3 x h3 (by omega), e3 y (by omega) (by omega)]
    exact hs _ _ (by omega) (by omega) (by omega)
set_option maxRecDepth 1000000 in
set_option maxHeartbeats 4000000 in
theorem symMerge_right {w : World} {g m cg q n c : Nat} {A : Option Addr} {fr : List Int} {d : Nat → Nat} (h : CtxS w g m q A n c fr d) (hm : m ≤ 1000) (a e b : Nat) (hae : a + 2 ≤ e) (heb : b = e + 1) (hbm : b ≤ m) (hs : SrtI (gi fr) d a e) :
    Calls Try.prog 38 #[.slice (some ⟨g, 0, none⟩) m cg, .int .i64 a, .int .i64 e, .int .i64 b, .func (.func 29) #[] #[.pointer (some ⟨q, 0, none⟩)]] w fun e' w' => ∃ d', e' = .returned (.tuple #[]) ∧ CtxS w' g m q A n c fr d' ∧ SameI d d' a b ∧ SrtI (gi fr) d' a b ∧ Out g (g + 1) w w' := by
  obtain ⟨u, hu⟩ : ∃ u, u = e - a := ⟨_, rfl⟩
  have h1 : IntKind.i64.wrap ((e : Int) - (a : Int)) = (u : Int) := (IntWalk.i64_in _ (by omega)).trans (by omega)
  have h1' : (e : Int) - (a : Int) = (u : Int) := by omega
  have h2 : ((u : Int) == 1) = false := by rw [beq_eq_false_iff_ne]; omega
  have h3 : IntKind.i64.wrap ((b : Int) - (e : Int)) = 1 := (IntWalk.i64_in _ (by omega)).trans (by omega)
  have h3' : (b : Int) - (e : Int) = 1 := by omega
  have HEB := Lib.hid heb
  have HAE := Lib.hid hae
  have HS := Lib.hid hs
  have hem : (e : Int) < (m : Int) := by omega
  clear hae hs hu heb
  go_enter Try.func38, Try.ntmps38
  go_wp2
  go_loopw [14, 15] (fun vi vj wr => ∃ (i j k : Nat), a ≤ i ∧ i ≤ j ∧ j ≤ e ∧ vi = .int .i64 i ∧ vj = .int .i64 j ∧ Hid (wr = w.drewN k) ∧ Hid ((∀ x, a ≤ x → x < i → gi fr (d x) ≤ gi fr (d e)) ∧ (∀ x, j ≤ x → x < e → gi fr (d e) < gi fr (d x)))) (fun vi vj _ => (intOf vj).toNat - (intOf vi).toNat)
  case atStart => exact ⟨a, e, 0, Nat.le_refl _, by have := HAE.out; omega, Nat.le_refl _, rfl, rfl, rfl, ⟨fun x h1 h2 => by omega, fun x h1 h2 => by omega⟩⟩
  case round =>
    obtain ⟨i, j, k, hei, hij, hjb, rfl, rfl, hw, hinv⟩ := hrel
    have hctx : CtxS wr g m q A n c fr d := by rw [hw.out]; exact h.drewN k
    by_cases hlt : i < j
    · have hlti : (i : Int) < (j : Int) := by omega
      obtain ⟨y, hy⟩ : ∃ y, y = (i + j) / 2 := ⟨_, rfl⟩
      have hyi : ((i : Int) + (j : Int)) / 2 = (y : Int) := by omega
      have hym : (y : Int) < (m : Int) := by omega
      have hc1 := hctx.row.cell (i := e) (by omega)
      have hc2 := hctx.row.cell (i := y) (by omega)
      have hcmp := fun k => rarest_c (hctx.fq.drewN k) (d e) (d y) (hctx.sym e (by omega)) (hctx.sym y (by omega))
      obtain ⟨z, hz⟩ : ∃ z, z = cmpI (gi fr (d e)) (gi fr (d y)) := ⟨_, rfl⟩
      have hzn := cmpI_neg (gi fr (d e)) (gi fr (d y))
      rw [← hz] at hzn
      simp only [← hz] at hcmp
      have HC := Lib.hid hcmp
      have HY : Hid (i ≤ y ∧ y < j) := by unfold Hid; omega
      by_cases hless : gi fr (d e) < gi fr (d y)
      · have hz0 := hzn.2 hless
        have hz1 : decide (0 ≤ z) = false := decide_eq_false (by omega)
        have hz2 : decide (z < 0) = true := decide_eq_true hz0
        have hz3 : ¬ 0 ≤ z := by omega
        have hinv2 : Hid ((∀ x, a ≤ x → x < i → gi fr (d x) ≤ gi fr (d e)) ∧ (∀ x, y ≤ x → x < e → gi fr (d e) < gi fr (d x))) := ⟨hinv.out.1, fun x h2 h3 => by
          by_cases e1 : x = y
          · rw [e1]; exact hless
          · have := HS.out y x (by omega) (by omega) h3; omega⟩
        clear hy hz hzn hless hcmp hinv hctx
        generalize d e = x1 at *
        generalize d y = x2 at *
        go_wp2
        go_region_held3 (fun w' => w'.cell? ⟨g, e, none⟩ = some (.int .i64 x1) ∧ w'.cell? ⟨g, y, none⟩ = some (.int .i64 x2)) (go_keep)
          ((go_at_call 29; refine (HC.out 1).mono ?_; rintro e _ ⟨rfl, k1, rfl⟩))
        go_wp2
        go_roundw
        case rel => exact ⟨i, y, _, hei, by have := HY.out; omega, by have := HY.out; omega, rfl, rfl, by unfold Hid; rw [hw.out, World.drewN_drewN], hinv2⟩
        case measure => have := HY.out; simp [intOf]; omega
      · have hz0 : ¬ z < 0 := fun e => hless (hzn.1 e)
        have hz1 : decide (0 ≤ z) = true := decide_eq_true (by omega)
        have hz2 : decide (z < 0) = false := decide_eq_false hz0
        have hinv2 : Hid ((∀ x, a ≤ x → x < y + 1 → gi fr (d x) ≤ gi fr (d e)) ∧ (∀ x, j ≤ x → x < e → gi fr (d e) < gi fr (d x))) := ⟨fun x h2 h3 => by
          by_cases e1 : x = y
          · rw [e1]; omega
          · have := HS.out x y h2 (by omega) (by omega); omega, hinv.out.2⟩
        clear hy hz hzn hless hcmp hinv hctx
        generalize d e = x1 at *
        generalize d y = x2 at *
        go_wp2
        go_region_held3 (fun w' => w'.cell? ⟨g, e, none⟩ = some (.int .i64 x1) ∧ w'.cell? ⟨g, y, none⟩ = some (.int .i64 x2)) (go_keep)
          ((go_at_call 29; refine (HC.out 1).mono ?_; rintro e _ ⟨rfl, k1, rfl⟩))
        go_wp2
        go_roundw
        case rel => exact ⟨y + 1, j, _, by have := HY.out; omega, by have := HY.out; omega, hjb, by go_num, rfl, by unfold Hid; rw [hw.out, World.drewN_drewN], hinv2⟩
        case measure => have := HY.out; simp [intOf]; omega
    · obtain rfl : i = j := by omega
      have hout : Out g (g + 1) w wr := by rw [hw.out]; exact Out.drewN _ _ _ _
      have hfin : Hid (SrtI (gi fr) (mvL d e i) a b) := by unfold Hid; rw [HEB.out]; exact mvL_srt hei hjb HS.out hinv.out.1 hinv.out.2
      clear hinv
      go_wp2
      go_loopw [17] (fun vk W => ∃ k : Nat, i ≤ k ∧ k ≤ e ∧ vk = .int .i64 k ∧ CtxS W g m q A n c fr (mvL d e k) ∧ Hid (SameI d (mvL d e k) a b) ∧ Out g (g + 1) w W) (fun vk _ => (intOf vk).toNat)
      case atStart => exact ⟨e, hjb, Nat.le_refl _, rfl, by rw [mvL_zero]; exact hctx, by unfold Hid; rw [mvL_zero]; exact SameI.refl _ _ _, hout⟩
      case round =>
        clear hctx hout hw
        obtain ⟨k, hak, hks, rfl, hctx, hsame, hout⟩ := hrel
        by_cases hlt2 : i < k
        · have hki : (i : Int) < (k : Int) := by omega
          obtain ⟨v, hv⟩ : ∃ v, v = k - 1 := ⟨_, rfl⟩
          have hvi : IntKind.i64.wrap ((k : Int) - 1) = (v : Int) := (IntWalk.i64_in _ (by omega)).trans (by omega)
          have hkm : (k : Int) < (m : Int) := by omega
          have hvm : (v : Int) < (m : Int) := by omega
          have hc1 := hctx.row.cell (i := k) (by omega)
          have hc2 := hctx.row.cell (i := v) (by omega)
          have hf1 := hctx.row.frozen k
          have hf2 := hctx.row.frozen v
          have hkv : k ≠ v := by omega
          have HD := Lib.hid (swD_row hctx.row k v hkv)
          have HSY := Lib.hid (swD_sym (u := k) (v := v) (by omega) (by omega) hctx.sym)
          have hsw : swD (mvL d e k) k v = mvL d e v := by
            have h1 := mvL_succ d e v (by omega)
            have h2 : v + 1 = k := by omega
            rw [h2] at h1
            rw [← h1]
            funext x
            unfold swD
            repeat' split
            all_goals first
              | rfl
              | omega
          have HMV := Lib.hid hsw
          have HSM : Hid (SameI d (mvL d e v) a b) := by
            unfold Hid
            have h1 := mvL_succ d e v (by omega)
            rw [← h1]
            have h2 : v + 1 = k := by omega
            rw [h2]
            have h3 := swD_same (mvL d e k) (a := a) (b := b) (u := v) (by omega) (by omega)
            rw [h2] at h3
            exact hsame.out.trans h3
          have HCTX := Lib.hid hctx
          have HVK : Hid (k = v + 1) := by unfold Hid; omega
          have hkv1 : (k == v) = false := by rw [beq_eq_false_iff_ne]; exact hkv
          have hkv2 : (v == k) = false := by rw [beq_eq_false_iff_ne]; exact Ne.symm hkv
          clear hv hsw hctx
          generalize mvL d e k k = x1 at *
          generalize mvL d e k v = x2 at *
          go_wp2
          go_region
          go_wp2
          go_roundw
          case rel =>
            have ho : Out g (g + 1) wr _ := ((Out.refl g (g + 1) wr).setCell k (.int .i64 ((x2 : Nat) : Int))).setCell v (.int .i64 ((x1 : Nat) : Int))
            have hc := HCTX.out.step HD.out ho HSY.out
            rw [HMV.out] at hc
            exact ⟨v, by have := HVK.out; omega, by have := HVK.out; omega, rfl, hc.drewN 1, HSM, hout.trans (ho.trans (Out.drewN _ _ _ 1))⟩
          case measure => have := HVK.out; simp [intOf]; omega
        · obtain rfl : k = i := by omega
          go_wp2
          refine bodyPost_ret (results_none rfl _ _ _) rfl ?_
          exact ⟨_, rfl, hctx, hsame.out, hfin.out, hout⟩
end Go.Proofs.Ytfnjjeopojdnjaa
