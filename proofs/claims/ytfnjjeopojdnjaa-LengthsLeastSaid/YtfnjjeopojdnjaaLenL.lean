/-
  THE DOCUMENT'S OWN LEAST COST: of all lengths that fit. No conditions but how many symbols there are.
-/
import Derived.Test.YtfnjjeopojdnjaaLaw09
namespace Go.Proofs.Ytfnjjeopojdnjaa
open Go.RowKit
set_option maxRecDepth 100000
set_option linter.unusedVariables false

def cmb : Option Nat → Option Nat → Option Nat
  | a, none => a
  | none, some y => some y
  | some x, some y => if y < x then some y else some x
def bst (g : Nat → Option Nat) : Nat → Option Nat
  | 0 => none
  | l + 1 => cmb (bst g l) (g (l + 1))
/-- with one symbol of length l ahead -/
def addO (f l : Nat) : Option Nat → Option Nat
  | none => none
  | some x => some (x + f * l)
def leastK (fr : List Int) (L : Nat) : Nat → Nat → Nat → Option Nat
  | 0, _, _ => some 0
  | k + 1, p, room => if gi fr p = 0 then leastK fr L k (p + 1) room else bst (fun l => if room < 2 ^ (15 - l) then none else addO (gi fr p).toNat l (leastK fr L k (p + 1) (room - 2 ^ (15 - l)))) L
def oI : Option Nat → Int
  | none => -1
  | some x => (x : Int)
theorem bst_congr {g h : Nat → Option Nat} {L : Nat} (e : ∀ l, 1 ≤ l → l ≤ L → g l = h l) : bst g L = bst h L := by
  induction L with
  | zero => rfl
  | succ L ih => unfold bst; rw [ih fun l h1 h2 => e l h1 (by omega), e (L + 1) (by omega) (Nat.le_refl _)]
theorem bst_some {g : Nat → Option Nat} {L x : Nat} (h : bst g L = some x) : ∃ l, 1 ≤ l ∧ l ≤ L ∧ g l = some x := by
  induction L with
  | zero => cases h
  | succ L ih =>
    unfold bst at h
    cases ha : bst g L with
    | none =>
      rw [ha] at h
      cases hb : g (L + 1) with
      | none => rw [hb] at h; cases h
      | some y => rw [hb] at h; exact ⟨L + 1, by omega, Nat.le_refl _, by rw [hb]; exact h⟩
    | some z =>
      rw [ha] at h
      cases hb : g (L + 1) with
      | none =>
        rw [hb] at h
        obtain ⟨l, h1, h2, h3⟩ := ih (by rw [ha]; exact h)
        exact ⟨l, h1, by omega, h3⟩
      | some y =>
        rw [hb] at h
        unfold cmb at h
        split at h
        · rename_i h' h''; cases h''
        · rename_i h' h''; cases h'
        · rename_i a b e1 e2
          injection e1 with e1
          injection e2 with e2
          subst e1 e2
          split at h
          · exact ⟨L + 1, by omega, Nat.le_refl _, by rw [hb]; exact h⟩
          · obtain ⟨l, h1, h2, h3⟩ := ih (by rw [ha]; exact h)
            exact ⟨l, h1, by omega, h3⟩
theorem bst_le {g : Nat → Option Nat} {L l y : Nat} (h1 : 1 ≤ l) (h2 : l ≤ L) (h : g l = some y) : ∃ x, bst g L = some x ∧ x ≤ y := by
  induction L with
  | zero => omega
  | succ L ih =>
    unfold bst
    by_cases e : l = L + 1
    · subst e
      rw [h]
      cases bst g L with
      | none => exact ⟨y, rfl, Nat.le_refl _⟩
      | some x =>
        by_cases hlt : y < x
        · exact ⟨y, if_pos hlt, Nat.le_refl _⟩
        · exact ⟨x, if_neg hlt, by omega⟩
    · obtain ⟨x, hx, hle⟩ := ih (by omega)
      rw [hx]
      cases g (L + 1) with
      | none => exact ⟨x, rfl, hle⟩
      | some z =>
        by_cases hlt : z < x
        · exact ⟨z, if_pos hlt, by omega⟩
        · exact ⟨x, if_neg hlt, hle⟩
def seg (f : Nat → Nat) : Nat → Nat → Nat
  | 0, _ => 0
  | k + 1, p => f p + seg f k (p + 1)
theorem seg_shift (f : Nat → Nat) : ∀ k p, seg f k p = sumF (fun i => f (p + i)) k := by
  intro k
  induction k with
  | zero => intro p; rfl
  | succ k ih =>
    intro p
    rw [sumF_shift]
    show f p + seg f k (p + 1) = f (p + 0) + _
    rw [ih (p + 1), Nat.add_zero]
    congr 1
    exact sumF_congr fun i _ => by rw [show p + 1 + i = p + (i + 1) by omega]
theorem seg_all (f : Nat → Nat) (n : Nat) : seg f n 0 = sumF f n := by
  rw [seg_shift]
  exact sumF_congr fun i _ => by rw [Nat.zero_add]
theorem seg_congr {f g : Nat → Nat} : ∀ k p, (∀ v, p ≤ v → v < p + k → f v = g v) → seg f k p = seg g k p := by
  intro k
  induction k with
  | zero => intro p _; rfl
  | succ k ih => intro p h; show f p + _ = g p + _; rw [h p (by omega) (by omega), ih (p + 1) fun v h1 h2 => h v (by omega) (by omega)]
theorem least_some {fr : List Int} {L : Nat} : ∀ k p room x, leastK fr L k p room = some x → (∀ v, 0 ≤ gi fr v ∨ p + k ≤ v) →
    ∃ o : Nat → Nat, (∀ v, p ≤ v → v < p + k → 0 < gi fr v → 1 ≤ o v ∧ o v ≤ L) ∧ seg (fun v => if 0 < gi fr v then 2 ^ (15 - o v) else 0) k p ≤ room ∧ seg (fun v => (gi fr v).toNat * o v) k p = x := by
  intro k
  induction k with
  | zero =>
    intro p room x h _
    injection h with h
    exact ⟨fun _ => 0, fun v h1 h2 => by omega, Nat.zero_le _, h⟩
  | succ k ih =>
    intro p room x h hp
    unfold leastK at h
    split at h
    · rename_i h0
      obtain ⟨o, h1, h2, h3⟩ := ih (p + 1) room x h (fun v => (hp v).imp id fun h => by omega)
      refine ⟨o, fun v hv hv2 hpos => ?_, ?_, ?_⟩
      · rcases (show v = p ∨ p + 1 ≤ v by omega) with rfl | h4
        · omega
        · exact h1 v h4 (by omega) hpos
      · show (if 0 < gi fr p then 2 ^ (15 - o p) else 0) + _ ≤ room
        rw [if_neg (by omega), Nat.zero_add]
        exact h2
      · show (gi fr p).toNat * o p + _ = x
        rw [show (gi fr p).toNat = 0 by omega, Nat.zero_mul, Nat.zero_add]
        exact h3
    · rename_i h0
      have hpos : 0 < gi fr p := by rcases hp p with h | h <;> omega
      obtain ⟨l, hl1, hl2, hl3⟩ := bst_some h
      split at hl3
      · cases hl3
      · rename_i hroom
        cases hk : leastK fr L k (p + 1) (room - 2 ^ (15 - l)) with
        | none => rw [hk] at hl3; cases hl3
        | some y =>
          rw [hk] at hl3
          injection hl3 with hl3
          obtain ⟨o, h1, h2, h3⟩ := ih (p + 1) _ y hk (fun v => (hp v).imp id fun h => by omega)
          refine ⟨fun v => if v = p then l else o v, fun v hv hv2 hv3 => ?_, ?_, ?_⟩
          · show 1 ≤ (if v = p then l else o v) ∧ (if v = p then l else o v) ≤ L
            split
            · exact ⟨hl1, hl2⟩
            · exact h1 v (by omega) (by omega) hv3
          · show (if 0 < gi fr p then 2 ^ (15 - if p = p then l else o p) else 0) + seg (fun v => if 0 < gi fr v then 2 ^ (15 - if v = p then l else o v) else 0) k (p + 1) ≤ room
            rw [if_pos hpos, if_pos rfl, seg_congr (g := fun v => if 0 < gi fr v then 2 ^ (15 - o v) else 0) k (p + 1) (fun v h4 h5 => by rw [if_neg (show ¬ v = p by omega)])]
            omega
          · show (gi fr p).toNat * (if p = p then l else o p) + seg (fun v => (gi fr v).toNat * (if v = p then l else o v)) k (p + 1) = x
            rw [if_pos rfl, seg_congr (g := fun v => (gi fr v).toNat * o v) k (p + 1) (fun v h4 h5 => by rw [if_neg (show ¬ v = p by omega)]), h3]
            omega
theorem least_le {fr : List Int} {L : Nat} (o : Nat → Nat) : ∀ k p room, (∀ v, 0 ≤ gi fr v ∨ p + k ≤ v) → (∀ v, p ≤ v → v < p + k → 0 < gi fr v → 1 ≤ o v ∧ o v ≤ L) →
    seg (fun v => if 0 < gi fr v then 2 ^ (15 - o v) else 0) k p ≤ room → ∃ x, leastK fr L k p room = some x ∧ x ≤ seg (fun v => (gi fr v).toNat * o v) k p := by
  intro k
  induction k with
  | zero => intro p room _ _ _; exact ⟨0, rfl, Nat.zero_le _⟩
  | succ k ih =>
    intro p room hp ho hs
    have hp' : ∀ v, 0 ≤ gi fr v ∨ p + 1 + k ≤ v := fun v => (hp v).imp id fun h => by omega
    have ho' : ∀ v, p + 1 ≤ v → v < p + 1 + k → 0 < gi fr v → 1 ≤ o v ∧ o v ≤ L := fun v h1 h2 h3 => ho v (by omega) (by omega) h3
    have hs' : (if 0 < gi fr p then 2 ^ (15 - o p) else 0) + seg (fun v => if 0 < gi fr v then 2 ^ (15 - o v) else 0) k (p + 1) ≤ room := hs
    unfold leastK
    by_cases h0 : gi fr p = 0
    · rw [if_pos h0]
      rw [if_neg (by omega), Nat.zero_add] at hs'
      obtain ⟨x, h1, h2⟩ := ih (p + 1) room hp' ho' hs'
      refine ⟨x, h1, ?_⟩
      show x ≤ (gi fr p).toNat * o p + _
      omega
    · rw [if_neg h0]
      have hpos : 0 < gi fr p := by rcases hp p with h | h <;> omega
      rw [if_pos hpos] at hs'
      obtain ⟨x, h1, h2⟩ := ih (p + 1) (room - 2 ^ (15 - o p)) hp' ho' (by omega)
      obtain ⟨h3, h4⟩ := ho p (Nat.le_refl _) (by omega) hpos
      obtain ⟨z, hz, hz2⟩ := bst_le (g := fun l => if room < 2 ^ (15 - l) then none else addO (gi fr p).toNat l (leastK fr L k (p + 1) (room - 2 ^ (15 - l)))) (y := x + (gi fr p).toNat * o p) h3 h4 (by
        rw [if_neg (by omega), h1]
        rfl)
      refine ⟨z, hz, ?_⟩
      show z ≤ (gi fr p).toNat * o p + seg (fun v => (gi fr v).toNat * o v) k (p + 1)
      omega
/-- of what is made, the document's least cost is its cost -/
theorem MadeX.leastK {fr : List Int} {n L m : Nat} {A : Nat → Nat} (h : MadeX fr n L m A) (hm : m = 0 ∨ 1 ≤ L) (hf : ∀ i, i < n → 0 ≤ gi fr i) : Go.Proofs.Ytfnjjeopojdnjaa.leastK fr L n 0 32768 = some (coF fr A n) := by
  have hp : ∀ v, 0 ≤ gi fr v ∨ 0 + n ≤ v := fun v => by
    by_cases hv : v < n
    · exact .inl (hf v hv)
    · exact .inr (by omega)
  have hfull : krF fr A n ≤ 32768 := by
    rw [h.full]
    split
    · omega
    · split <;> omega
  obtain ⟨x, hx, hle⟩ := least_le (L := L) A n 0 32768 hp (fun v _ h2 h3 => ⟨h.pos v (by omega) h3, h.most v⟩) (by rw [seg_all]; exact hfull)
  obtain ⟨o, h1, h2, h3⟩ := least_some n 0 32768 x hx hp
  rw [seg_all] at hle h2 h3
  have h4 := h.least o (fun v hv h0 => h1 v (Nat.zero_le _) (by omega) h0) h2
  rw [hx]
  congr 1
  have h5 : coF fr o n = x := h3
  have h6 : x ≤ coF fr A n := hle
  omega
theorem leastK_small {fr : List Int} {L : Nat} (hL : L ≤ 15) : ∀ k p room x, leastK fr L k p room = some x → (∀ v, gi fr v ≤ 1073741824 ∨ p + k ≤ v) → x ≤ k * 16106127360 := by
  intro k
  induction k with
  | zero => intro p room x h _; injection h with h; omega
  | succ k ih =>
    intro p room x h hp
    have hp' : ∀ v, gi fr v ≤ 1073741824 ∨ p + 1 + k ≤ v := fun v => (hp v).imp id fun h => by omega
    unfold leastK at h
    split at h
    · exact Nat.le_trans (ih (p + 1) room x h hp') (Nat.mul_le_mul_right _ (Nat.le_succ k))
    · obtain ⟨l, hl1, hl2, hl3⟩ := bst_some h
      split at hl3
      · cases hl3
      · cases hk : leastK fr L k (p + 1) (room - 2 ^ (15 - l)) with
        | none => rw [hk] at hl3; cases hl3
        | some y =>
          rw [hk] at hl3
          injection hl3 with hl3
          have h1 := ih (p + 1) _ y hk hp'
          have h2 : (gi fr p).toNat ≤ 1073741824 := by rcases hp p with h | h <;> omega
          have h3 := Nat.mul_le_mul h2 (show l ≤ 15 by omega)
          have h4 : 1073741824 * 15 = 16106127360 := by decide
          omega
/-! ### The walk -/
theorem shr15N (l pw : Nat) (hl : l ≤ 15) (h : pw = 2 ^ (15 - l)) : (32768 : Int) / 2 ^ l = (pw : Int) := shr15 l pw hl h
set_option maxRecDepth 1000000 in
set_option maxHeartbeats 8000000 in
theorem Least_c (A : Option Addr) (n c : Nat) (fr : List Int) (L : Nat) (hL : L ≤ 15) (hn : n ≤ 100) (w : World) (h : IRow w A n .i64 fr) (hf : ∀ i, i < n → 0 ≤ gi fr i ∧ gi fr i ≤ 1073741824) :
    ∀ k p room : Nat, p + k = n → room ≤ 32768 → Calls Try.prog 14 #[.slice A n c, .int .i64 L, .int .i64 p, .int .i64 room] w fun e w' => e = .returned (.int .i64 (oI (leastK fr L k p room))) ∧ w = w' := by
  intro k
  induction k with
  | zero =>
    intro p room hpk hr
    obtain rfl : p = n := by omega
    have hpp : ((p : Int) == (p : Int)) = true := by simp
    go_enter Try.func14, Try.ntmps14
    go_wp2
    go_ret
    exact ⟨rfl, rfl⟩
  | succ k ih =>
    intro p room hpk hr
    have hpn : p < n := by omega
    have hpi : (p : Int) < (n : Int) := by omega
    have hpp : ((p : Int) == (n : Int)) = false := by simp; omega
    have hfp := hf p hpn
    have IH := Lib.hid ih
    obtain ⟨b1, o1, rfl, _, q1⟩ := h.at_ hpn
    obtain ⟨f, hff⟩ : ∃ f : Nat, gi fr p = (f : Int) := ⟨(gi fr p).toNat, by omega⟩
    rw [hff] at q1
    have hp1 : ((p + 1 : Nat) : Int) = (p : Int) + 1 := by omega
    by_cases h0 : f = 0
    · have hE : Hid (leastK fr L (k + 1) p room = leastK fr L k (p + 1) room) := if_pos (by rw [hff, h0]; rfl)
      have hfi : ((f : Int) == 0) = true := by simp; omega
      have HC := Lib.hid (ih (p + 1) room (by omega) hr)
      rw [hp1] at HC
      clear hff h0 ih hfp hp1
      go_enter Try.func14, Try.ntmps14
      go_wp2_with fail
      refine HC.out.mono ?_
      rintro e w' ⟨rfl, rfl⟩
      go_wp2
      go_ret
      rw [hE.out]
      exact ⟨rfl, rfl⟩
    · have hfi : ((f : Int) == 0) = false := by simp; omega
      obtain ⟨G, hG⟩ : ∃ G : Nat → Option Nat, G = fun l => if room < 2 ^ (15 - l) then none else addO f l (leastK fr L k (p + 1) (room - 2 ^ (15 - l))) := ⟨_, rfl⟩
      have hE : Hid (leastK fr L (k + 1) p room = bst G L) := by
        unfold Hid
        rw [hG]
        show (if gi fr p = 0 then _ else _) = _
        rw [if_neg (by omega), hff, Int.toNat_natCast]
      have HG := Lib.hid (fun l => congrFun hG l)
      have hsm : Hid (∀ l x, G l = some x → l ≤ 15 → x ≤ 200 * 16106127360) := by
        intro l x hx hl
        rw [HG.out l] at hx
        split at hx
        · cases hx
        · cases hk : leastK fr L k (p + 1) (room - 2 ^ (15 - l)) with
          | none => rw [hk] at hx; cases hx
          | some y =>
            rw [hk] at hx
            injection hx with hx
            have h1 := leastK_small hL k (p + 1) _ y hk (fun v => by
              by_cases hv : v < n
              · exact .inl (hf v hv).2
              · exact .inr (by omega))
            have h3 := Nat.mul_le_mul (show f ≤ 1073741824 by omega) (show l ≤ 15 by omega)
            have h4 : 1073741824 * 15 = 16106127360 := by decide
            have h5 : k * 16106127360 ≤ 100 * 16106127360 := Nat.mul_le_mul_right _ (by omega)
            omega
      have hf9 : f ≤ 1073741824 := by omega
      clear hG hff ih hfp h0
      go_enter Try.func14, Try.ntmps14
      go_wp2
      go_loop [9, 10] (fun vb vl => ∃ l : Nat, l ≤ L ∧ vl = .int .i64 ((l : Int) + 1) ∧ vb = .int .i64 (oI (bst G l))) (fun _ vl => L + 1 - (intOf vl).toNat)
      case atStart => exact ⟨0, by omega, rfl, rfl⟩
      case round =>
        obtain ⟨l, hl, rfl, rfl⟩ := hrel
        by_cases hlt : l < L
        · obtain ⟨l1, hl1⟩ : ∃ l1, l1 = l + 1 := ⟨_, rfl⟩
          have hli : (l : Int) + 1 = (l1 : Int) := by omega
          rw [hli]
          have hl15 : l1 ≤ 15 := by omega
          have hle : (l1 : Int) ≤ (L : Int) := by omega
          obtain ⟨pw, hpw⟩ : ∃ pw, pw = 2 ^ (15 - l1) := ⟨_, rfl⟩
          have hsh := shr15N l1 pw hl15 hpw
          have hpw9 : pw ≤ 32768 := by
            rw [hpw]
            exact Nat.pow_le_pow_right (n := 2) (by decide) (show 15 - l1 ≤ 15 by omega)
          have hGl := HG.out l1
          rw [← hpw] at hGl
          have hB : Hid (bst G l1 = cmb (bst G l) (G l1)) := by rw [hl1]; rfl
          have hbs : ∀ x, bst G l = some x → x ≤ 200 * 16106127360 := fun x hx => by
            obtain ⟨l', h1, h2, h3⟩ := bst_some hx
            exact hsm.out l' x h3 (by omega)
          by_cases hroom : room < pw
          · have hri : (room : Int) < (pw : Int) := by omega
            rw [if_pos hroom] at hGl
            rw [hGl] at hB
            have HL1 := Lib.hid hl1
            have HB2 : Hid (bst G l1 = bst G l) := by rw [hB.out]; rfl
            clear hB hGl hl1 hpw
            generalize bst G l = X at *
            go_wp2
            go_round
            case rel => exact ⟨l1, by omega, by go_num, by rw [HB2.out]⟩
            case measure => have := HL1.out; simp [intOf]; omega
          · have hri : ¬ (room : Int) < (pw : Int) := by omega
            rw [if_neg hroom] at hGl
            obtain ⟨r1, hr1⟩ : ∃ r1, r1 = room - pw := ⟨_, rfl⟩
            have hr1i : (room : Int) - (pw : Int) = (r1 : Int) := by omega
            have HC := Lib.hid (IH.out (p + 1) r1 (by omega) (by omega))
            rw [hp1] at HC
            rw [← hr1] at hGl
            have hsmY : ∀ y, leastK fr L k (p + 1) r1 = some y → y + f * l1 ≤ 200 * 16106127360 := fun y hy => by
              refine hsm.out l1 _ ?_ hl15
              rw [hGl, hy]
              rfl
            have HL1 := Lib.hid hl1
            obtain ⟨z, hz⟩ : ∃ z, z = f * l1 := ⟨_, rfl⟩
            have hzi : (f : Int) * (l1 : Int) = (z : Int) := by rw [hz]; push_cast; rfl
            rw [← hz] at hsmY
            cases hY : leastK fr L k (p + 1) r1 with
            | none =>
              rw [hY] at HC hGl
              have HB2 : Hid (bst G l1 = bst G l) := by rw [hB.out, hGl]; rfl
              have HCC : Hid (Calls Try.prog 14 #[.slice (some ⟨b1, o1, none⟩) n c, .int .i64 L, .int .i64 ((p : Int) + 1), .int .i64 r1] w fun e w' => e = .returned (.int .i64 (-1)) ∧ w = w') := HC.out
              clear hB hGl hl1 hpw hr1 hz hsmY hY HC
              generalize bst G l = X at *
              go_wp2_with fail
              refine HCC.out.mono ?_
              rintro e w' ⟨rfl, rfl⟩
              go_wp2
              go_round
              case rel => exact ⟨l1, by omega, by go_num, by rw [HB2.out]⟩
              case measure => have := HL1.out; simp [intOf]; omega
            | some y =>
              rw [hY] at HC hGl
              have hyz := hsmY y hY
              obtain ⟨s, hs⟩ : ∃ s, s = y + z := ⟨_, rfl⟩
              have hsi : (y : Int) + (z : Int) = (s : Int) := by omega
              have hGs : G l1 = some s := by rw [hGl, hs, hz]; rfl
              have HCC : Hid (Calls Try.prog 14 #[.slice (some ⟨b1, o1, none⟩) n c, .int .i64 L, .int .i64 ((p : Int) + 1), .int .i64 r1] w fun e w' => e = .returned (.int .i64 (y : Int)) ∧ w = w') := HC.out
              have hs9 : s ≤ 200 * 16106127360 := by omega
              have hy9 : y ≤ 200 * 16106127360 := by omega
              have hz9 : z ≤ 200 * 16106127360 := by omega
              have hy0 : (0 : Int) ≤ (y : Int) := by omega
              cases hX : bst G l with
              | none =>
                have HB2 : Hid (bst G l1 = some s) := by rw [hB.out, hGs, hX]; rfl
                clear hB hGl hl1 hpw hr1 hz hsmY hY HC hs hGs hX hbs hyz
                rw [show oI none = -1 from rfl]
                go_wp2_with fail
                refine HCC.out.mono ?_
                rintro e w' ⟨rfl, rfl⟩
                go_wp2
                go_round
                case rel => exact ⟨l1, by omega, by go_num, by rw [HB2.out]; go_num⟩
                case measure => have := HL1.out; simp [intOf]; omega
              | some x =>
                have hx9 := hbs x hX
                have hx0 : ¬ ((x : Int) < 0) := by omega
                by_cases hsx : s < x
                · have HB2 : Hid (bst G l1 = some s) := by rw [hB.out, hGs, hX]; exact if_pos hsx
                  have hsxi : (s : Int) < (x : Int) := by omega
                  clear hB hGl hl1 hpw hr1 hz hsmY hY HC hs hGs hX hbs hyz
                  rw [show oI (some x) = (x : Int) from rfl]
                  go_wp2_with fail
                  refine HCC.out.mono ?_
                  rintro e w' ⟨rfl, rfl⟩
                  go_wp2
                  go_round
                  case rel => exact ⟨l1, by omega, by go_num, by rw [HB2.out]; go_num⟩
                  case measure => have := HL1.out; simp [intOf]; omega
                · have HB2 : Hid (bst G l1 = some x) := by rw [hB.out, hGs, hX]; exact if_neg hsx
                  have hsxi : ¬ (s : Int) < (x : Int) := by omega
                  clear hB hGl hl1 hpw hr1 hz hsmY hY HC hs hGs hX hbs hyz
                  rw [show oI (some x) = (x : Int) from rfl]
                  go_wp2_with fail
                  refine HCC.out.mono ?_
                  rintro e w' ⟨rfl, rfl⟩
                  go_wp2
                  go_round
                  case rel => exact ⟨l1, by omega, by go_num, by rw [HB2.out]; rfl⟩
                  case measure => have := HL1.out; simp [intOf]; omega
        · obtain rfl : l = L := by omega
          have hle : ¬ ((l : Int) + 1 ≤ (l : Int)) := by omega
          have HL := Lib.hid hle
          go_wp2
          go_ret
          rw [hE.out]
          exact ⟨rfl, rfl⟩
end Go.Proofs.Ytfnjjeopojdnjaa
