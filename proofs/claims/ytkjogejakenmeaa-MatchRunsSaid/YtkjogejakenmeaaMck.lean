/-
  ROWS OF TOKENS IN MEMORY; the contracts of size, Bytes (both), the document's Same. No conditions.
-/
import Derived.Test.YtkjogejakenmeaaMcj
namespace Go.Proofs.Ytkjogejakenmeaa
open Go.RowKit
set_option maxRecDepth 1000000
set_option linter.unusedVariables false

def tg (T : List Tok) (i : Nat) : Tok := T.getD i ⟨0, 0, 0⟩
theorem tg_cons (t : Tok) (r : List Tok) (i : Nat) : tg (t :: r) (i + 1) = tg r i := by simp [tg]
theorem take_tg {T : List Tok} {k : Nat} (h : k < T.length) : T.take (k + 1) = T.take k ++ [tg T k] := by
  rw [List.take_add_one]
  simp [tg, h]
def TokWf (t : Tok) : Prop := (Lit.int .i64 t.len).wf = true ∧ (Lit.int .i64 t.dist).wf = true
/-- a row of tokens -/
structure TRow (w : World) (A : Option Addr) (n : Nat) (T : List Tok) : Prop where
  len : T.length = n
  max : n ≤ maxLen
  top : 0 < n → ∃ b off, A = some ⟨b, off, none⟩ ∧ b < w.heap.size ∧ ∀ i, i < n → w.cell? ⟨b, off + i * 3, none⟩ = some (.int .u8 (tg T i).lit.n) ∧ w.cell? ⟨b, off + i * 3 + 1, none⟩ = some (.int .i64 (tg T i).len) ∧ w.cell? ⟨b, off + i * 3 + 2, none⟩ = some (.int .i64 (tg T i).dist)
  wf : ∀ i, i < n → TokWf (tg T i)
namespace TRow
variable {w w' : World} {A : Option Addr} {n : Nat} {T : List Tok}
theorem below (h : TRow w A n T) (hb : Below w.heap.size w w') : TRow w' A n T :=
  ⟨h.len, h.max, fun hn => by
    obtain ⟨b, off, e, hl, hc⟩ := h.top hn
    refine ⟨b, off, e, by have := hb.size; omega, fun i hi => ?_⟩
    obtain ⟨c0, c1, c2⟩ := hc i hi
    exact ⟨(hb.cell (p := ⟨b, off + i * 3, none⟩) hl).trans c0, (hb.cell (p := ⟨b, off + i * 3 + 1, none⟩) hl).trans c1, (hb.cell (p := ⟨b, off + i * 3 + 2, none⟩) hl).trans c2⟩, h.wf⟩
theorem take (h : TRow w A n T) {k : Nat} (hk : k ≤ n) : TRow w A k (T.take k) := by
  have ht : ∀ i, i < k → tg (T.take k) i = tg T i := fun i hi => by simp [tg, List.getD, hi]
  refine ⟨by rw [List.length_take, h.len]; omega, by have := h.max; omega, fun hn => ?_, fun i hi => by rw [ht i hi]; exact h.wf i (by omega)⟩
  obtain ⟨b, off, e, hl, hc⟩ := h.top (by omega)
  exact ⟨b, off, e, hl, fun i hi => by rw [ht i hi]; exact hc i (by omega)⟩
theorem at_ (h : TRow w A n T) {i : Nat} (hi : i < n) : ∃ b off, A = some ⟨b, off, none⟩ ∧ b < w.heap.size ∧ w.cell? ⟨b, off + i * 3, none⟩ = some (.int .u8 (tg T i).lit.n) ∧ w.cell? ⟨b, off + i * 3 + 1, none⟩ = some (.int .i64 (tg T i).len) ∧ w.cell? ⟨b, off + i * 3 + 2, none⟩ = some (.int .i64 (tg T i).dist) := by
  obtain ⟨b, off, e, hl, hc⟩ := h.top (by omega)
  exact ⟨b, off, e, hl, hc i hi⟩
end TRow
theorem tC_at {T : List Tok} {i : Nat} (h : i < T.length) : (tC T)[i * 3]? = some (.int .u8 (tg T i).lit.n) ∧ (tC T)[i * 3 + 1]? = some (.int .i64 (tg T i).len) ∧ (tC T)[i * 3 + 2]? = some (.int .i64 (tg T i).dist) := by
  induction T generalizing i with
  | nil => simp at h
  | cons t r ih =>
    have e : tC (t :: r) = tk3 t ++ tC r := rfl
    cases i with
    | zero => rw [e]; exact ⟨rfl, rfl, rfl⟩
    | succ i =>
      have := ih (i := i) (by simpa using h)
      rw [e, tg_cons]
      have e3 : (tk3 t).length = 3 := rfl
      refine ⟨?_, ?_, ?_⟩
      · rw [List.getElem?_append_right (by rw [e3]; omega), e3, show (i + 1) * 3 - 3 = i * 3 by omega]; exact this.1
      · rw [List.getElem?_append_right (by rw [e3]; omega), e3, show (i + 1) * 3 + 1 - 3 = i * 3 + 1 by omega]; exact this.2.1
      · rw [List.getElem?_append_right (by rw [e3]; omega), e3, show (i + 1) * 3 + 2 - 3 = i * 3 + 2 by omega]; exact this.2.2
theorem TRow.ofOwn {w : World} {base n c : Nat} {e : TypeId} {A : Option Addr} {T : List Tok} (h : w.ownsRow base e 3 (.slice A n c) n (tC T)) (hT : T.length = n) (hm : n ≤ maxLen) (hwf : ∀ i, i < n → TokWf (tg T i)) : TRow w A n T := by
  refine ⟨hT, hm, fun hn => ?_, hwf⟩
  rcases h.2 with ⟨_, h0⟩ | ⟨g, cap, cur, hv, _, hg, _, _, hs, ht⟩
  · omega
  · injection hv with h1 _ _
    refine ⟨g, 0, h1, (Array.getElem?_eq_some_iff.1 hg).1, fun i hi => ?_⟩
    obtain ⟨q0, q1, q2⟩ := tC_at (T := T) (i := i) (by omega)
    have key : ∀ j, j < n * 3 → w.cell? ⟨g, j, none⟩ = (tC T)[j]? := fun j hj => by
      rw [cell_of_row w g j cur e (0, 0) hg, ← ht, List.getElem?_take, if_pos hj, Array.getElem?_toList]
    rw [Nat.zero_add]
    exact ⟨(key _ (by omega)).trans q0, (key _ (by omega)).trans q1, (key _ (by omega)).trans q2⟩
/-- a token's cells -/
def tkV (t : Tok) : Value := .agg #[.int .u8 t.lit.n, .int .i64 t.len, .int .i64 t.dist]
theorem size_c (t : Tok) (ht : TokWf t) (w : World) : Calls Try.prog 22 #[tkV t] w fun e w' => e = .returned (.int .i64 (szF t : Nat)) ∧ Below w.heap.size w w' := by
  obtain ⟨x, len, dist⟩ := t
  have hr := wf_i64 ht.1
  unfold tkV
  dsimp only at hr ⊢
  by_cases h0 : len = 0
  · subst h0
    have hE : Hid (szF ⟨x, 0, dist⟩ = 1) := rfl
    go_enter Try.func22, Try.ntmps22
    go_wp2
    go_ret
    rw [hE.out]
    exact ⟨rfl, (Below.refl _ _).alloc (Nat.le_refl _) _⟩
  · have hz : (len == 0) = false := by rw [beq_eq_false_iff_ne]; exact h0
    obtain ⟨mx, hmx⟩ : ∃ mx : Int, mx = max len 0 := ⟨_, rfl⟩
    obtain ⟨z, hz2⟩ : ∃ z : Nat, z = szF ⟨x, len, dist⟩ := ⟨_, rfl⟩
    have hz3 : min mx 258 = (z : Int) := by
      rw [hz2, hmx]; unfold szF; rw [if_neg (by exact h0)]; show min (max len 0) 258 = ((min len.toNat 258 : Nat) : Int); omega
    have hmx1 : max len 0 = mx := hmx.symm
    rw [← hz2]
    clear hmx hz2 h0
    go_enter Try.func22, Try.ntmps22
    go_wp2
    go_ret
    exact ⟨rfl, (Below.refl _ _).alloc (Nat.le_refl _) _⟩
theorem bysF_take {T : List Tok} {k : Nat} (h : k < T.length) : bysF (T.take (k + 1)) = bysF (T.take k) + szF (tg T k) := by
  rw [take_tg h, bysF_append]; simp [bysF]
theorem bysF_le (T : List Tok) : bysF T ≤ 258 * T.length := by
  induction T with
  | nil => simp [bysF]
  | cons t r ih => have := szF_le t; simp only [bysF, List.length_cons]; omega
set_option maxHeartbeats 1000000 in
theorem MBytes_c (A : Option Addr) (n c : Nat) (T : List Tok) (w : World) (h : TRow w A n T) (hn : n ≤ 100000) : Calls Try.prog 12 #[.slice A n c] w fun e w' => e = .returned (.int .i64 (bysF T : Nat)) ∧ Below w.heap.size w w' := by
  have HH := Lib.hid h
  have HLEN := Lib.hid h.len
  clear h
  go_enter Try.func12, Try.ntmps12
  go_wp2
  go_loopw [3, 8] (fun sv iv wr => ∃ (i z : Nat), iv = .int .i64 i ∧ sv = .int .i64 z ∧ i ≤ n ∧ Hid (z = bysF (T.take i)) ∧ z ≤ 30000000 ∧ Hid (Below w.heap.size w wr)) (fun _ iv _ => n - (intOf iv).toNat)
  case atStart => exact ⟨0, 0, rfl, rfl, by omega, rfl, by omega, Below.refl _ _⟩
  case round =>
    obtain ⟨i, z, rfl, rfl, hi, hz, hz3, hb⟩ := hrel
    by_cases hlt : i < n
    · have hlt2 : (i : Int) < (n : Int) := by omega
      have h1 := HH.out.below hb.out
      obtain ⟨b, off, rfl, hl, c0, c1, c2⟩ := h1.at_ hlt
      have hwf := HH.out.wf i hlt
      have hst : Hid (bysF (T.take (i + 1)) = z + szF (tg T i)) := by unfold Hid; rw [bysF_take (by rw [HLEN.out]; exact hlt), hz.out]
      have hle : bysF (T.take (i + 1)) ≤ 258 * n := Nat.le_trans (bysF_le _) (by rw [List.length_take, HLEN.out]; omega)
      have HSZ := Lib.hid (fun W => size_c (tg T i) hwf W)
      have hs258 := szF_le (tg T i)
      rw [hst.out] at hle
      obtain ⟨sz, hsz⟩ : ∃ sz, sz = szF (tg T i) := ⟨_, rfl⟩
      rw [← hsz] at HSZ hst hs258 hle
      unfold tkV at HSZ
      generalize (tg T i).lit = x at *
      generalize (tg T i).len = y at *
      generalize (tg T i).dist = d at *
      clear h1 hwf hsz
      go_wp2_with fail
      refine (HSZ.out _).mono ?_
      rintro e w2 ⟨rfl, hb2⟩
      have hb3 := Lib.hid (hb.out.trans (((Below.refl wr.heap.size wr).alloc (Nat.le_refl _) (.cells #[.int .u8 x.n, .int .i64 y, .int .i64 d] 41)).trans (hb2.mono (by simp)) |>.mono hb.out.size))
      clear hb2
      go_wp2
      go_roundw
      case rel => exact ⟨i + 1, z + sz, by go_num, by go_num, by omega, hst.out.symm, by omega, hb3⟩
      case measure => simp [intOf]; omega
    · have hi2 : i = n := by omega
      have hlt2 : ¬ (i : Int) < (n : Int) := by omega
      have hE : Hid (z = bysF T) := by
        have h1 := hz.out
        rw [hi2, ← HLEN.out, List.take_length] at h1
        exact h1
      clear hi2 hlt
      go_wp2
      go_ret
      rw [hE.out]
      exact ⟨rfl, hb.out⟩
theorem held_sz (t : Tok) (h0 : t.len ≠ 0) : heldI t.len 0 258 = (szF t : Nat) := by
  unfold heldI szF
  rw [if_neg h0]
  split <;> (try split) <;> omega
set_option maxHeartbeats 1000000 in
theorem RBytes_c (A : Option Addr) (n c : Nat) (T : List Tok) (w : World) (h : TRow w A n T) (hn : n ≤ 100000) : Calls Try.prog 13 #[.slice A n c] w fun e w' => e = .returned (.int .i64 (bysF T : Nat)) ∧ Below w.heap.size w w' := by
  have HH := Lib.hid h
  have HLEN := Lib.hid h.len
  clear h
  go_enter Try.func13, Try.ntmps13
  go_wp2
  go_loopw [3, 4] (fun sv iv wr => ∃ (i z : Nat), iv = .int .i64 i ∧ sv = .int .i64 z ∧ i ≤ n ∧ Hid (z = bysF (T.take i)) ∧ z ≤ 30000000 ∧ w = wr) (fun _ iv _ => n - (intOf iv).toNat)
  case atStart => exact ⟨0, 0, rfl, rfl, by omega, rfl, by omega, rfl⟩
  case round =>
    obtain ⟨i, z, rfl, rfl, hi, hz, hz3, rfl⟩ := hrel
    by_cases hlt : i < n
    · have hlt2 : (i : Int) < (n : Int) := by omega
      obtain ⟨b, off, rfl, hl, c0, c1, c2⟩ := HH.out.at_ hlt
      have hst : Hid (bysF (T.take (i + 1)) = z + szF (tg T i)) := by unfold Hid; rw [bysF_take (by rw [HLEN.out]; exact hlt), hz.out]
      have hle : bysF (T.take (i + 1)) ≤ 258 * n := Nat.le_trans (bysF_le _) (by rw [List.length_take, HLEN.out]; omega)
      have hs258 := szF_le (tg T i)
      rw [hst.out] at hle
      by_cases h0 : (tg T i).len = 0
      · have hz1 : szF (tg T i) = 1 := by unfold szF; rw [if_pos h0]
        have hyb : ((tg T i).len == 0) = true := by rw [h0]; rfl
        rw [hz1] at hst hle
        generalize (tg T i).lit = x at *
        generalize (tg T i).dist = d at *
        clear hz1 hs258 h0
        generalize (tg T i).len = y at *
        go_wp2
        go_roundw
        case rel => exact ⟨i + 1, z + 1, by go_num, by go_num, by omega, hst.out.symm, by omega, trivial⟩
        case measure => simp [intOf]; omega
      · have hyb : ((tg T i).len == 0) = false := by rw [beq_eq_false_iff_ne]; exact h0
        have HSZ := Lib.hid (HeldI_c (tg T i).len 0 258 w)
        rw [held_sz _ h0] at HSZ
        obtain ⟨sz, hsz⟩ : ∃ sz, sz = szF (tg T i) := ⟨_, rfl⟩
        rw [← hsz] at HSZ hst hs258 hle
        clear hsz h0
        generalize (tg T i).lit = x at *
        generalize (tg T i).dist = d at *
        generalize (tg T i).len = y at *
        go_wp2_with fail
        refine HSZ.out.mono ?_
        rintro e w2 ⟨rfl, rfl⟩
        go_wp2
        go_roundw
        case rel => exact ⟨i + 1, z + sz, by go_num, by go_num, by omega, hst.out.symm, by omega, trivial⟩
        case measure => simp [intOf]; omega
    · have hi2 : i = n := by omega
      have hlt2 : ¬ (i : Int) < (n : Int) := by omega
      have hE : Hid (z = bysF T) := by
        have h1 := hz.out
        rw [hi2, ← HLEN.out, List.take_length] at h1
        exact h1
      clear hi2 hlt
      go_wp2
      go_ret
      rw [hE.out]
      exact ⟨rfl, Below.refl _ _⟩
/-- .. as the document says it -/
def smR (l : List F) (i k : Int) : Nat := smZ l i k
set_option maxHeartbeats 1000000 in
theorem RSame_c (B : Option Addr) (n cb : Nat) (l : List F) (w : World) (hr : RowIn w B n cb l) (hn : n ≤ 100000) (i k : Int) (hi : i < 9223372036854775808 ∧ -9223372036854775808 ≤ i) (hk : k < 9223372036854775808 ∧ -9223372036854775808 ≤ k) :
    Calls Try.prog 15 #[.slice B n cb, .int .i64 i, .int .i64 k] w fun e w' => e = .returned (.int .i64 (smZ l i k : Nat)) ∧ ∃ q, w' = w.drewN q := by
  have hlen := hr.row.len
  by_cases hi0 : i < 0
  · have hz : Hid (smZ l i k = 0) := by unfold Hid smZ; rw [if_pos (.inl hi0)]
    clear hr
    go_enter Try.func15, Try.ntmps15
    go_wp2
    go_ret
    rw [hz.out]
    exact ⟨rfl, 0, rfl⟩
  by_cases hk0 : k < 0
  · have hz : Hid (smZ l i k = 0) := by unfold Hid smZ; rw [if_pos (.inr hk0)]
    clear hr
    go_enter Try.func15, Try.ntmps15
    go_wp2
    go_ret
    rw [hz.out]
    exact ⟨rfl, 0, rfl⟩
  obtain ⟨a, rfl⟩ : ∃ a : Nat, i = (a : Int) := ⟨i.toNat, by omega⟩
  obtain ⟨b, rfl⟩ : ∃ b : Nat, k = (b : Int) := ⟨k.toNat, by omega⟩
  have hz : Hid (smZ l (a : Int) (b : Int) = smF l a b) := by unfold Hid smZ; rw [if_neg (by omega)]; rfl
  rw [hz.out]
  by_cases ha : n < a
  · have hs : Hid (smF l a b = 0) := smF_out (by omega)
    have hai : (n : Int) < (a : Int) := by omega
    clear hr hlen ha
    go_enter Try.func15, Try.ntmps15
    go_wp2
    go_ret
    rw [hs.out]
    exact ⟨rfl, 0, rfl⟩
  by_cases hb : n < b
  · have hs : Hid (smF l a b = 0) := smF_out (by omega)
    have hai : ¬ (n : Int) < (a : Int) := by omega
    have hbi : (n : Int) < (b : Int) := by omega
    clear hr hlen ha hb
    go_enter Try.func15, Try.ntmps15
    go_wp2
    go_ret
    rw [hs.out]
    exact ⟨rfl, 0, rfl⟩
  have hai : ¬ (n : Int) < (a : Int) := by omega
  have hbi : ¬ (n : Int) < (b : Int) := by omega
  have hab : a ≤ 100000 ∧ b ≤ 100000 := by omega
  have HR := Lib.hid hr
  have HLEN := Lib.hid hlen
  clear hr hlen ha hb hz
  go_enter Try.func15, Try.ntmps15
  go_wp2
  go_loopw [7] (fun jv wr => ∃ j q : Nat, jv = .int .i64 j ∧ j ≤ 258 ∧ wr = w.drewN q ∧ Hid (j = 0 ∨ a + j ≤ n ∧ b + j ≤ n) ∧ Hid (∀ x, x < j → gt l (a + x) = gt l (b + x))) (fun jv _ => 258 - (intOf jv).toNat)
  case atStart => exact ⟨0, 0, rfl, by omega, rfl, .inl rfl, fun x hx => by omega⟩
  case round =>
    obtain ⟨j, q, rfl, hj, rfl, hin, hs⟩ := hrel
    obtain ⟨A1, hA1⟩ : ∃ A1, A1 = a + j := ⟨_, rfl⟩
    obtain ⟨B1, hB1⟩ : ∃ B1, B1 = b + j := ⟨_, rfl⟩
    have w1 : IntKind.i64.wrap ((a : Int) + (j : Int)) = (A1 : Int) := (IntWalk.i64_in _ (by omega)).trans (by omega)
    have w2 : IntKind.i64.wrap ((b : Int) + (j : Int)) = (B1 : Int) := (IntWalk.i64_in _ (by omega)).trans (by omega)
    have hstop : ¬ (j < 258 ∧ A1 < n ∧ B1 < n ∧ gt l A1 = gt l B1) → smF l a b = j := fun h => (smF_is l a b).unique ⟨hj, by have := hin.out; have := HLEN.out; omega, hs.out, by
      by_cases h5 : j = 258
      · exact .inl h5
      · right
        intro h6
        refine h ⟨by omega, by have := HLEN.out; omega, by have := HLEN.out; omega, ?_⟩
        rw [hA1, hB1]; exact h6.2.2⟩
    by_cases h1 : j < 258
    · have h1i : (j : Int) < 258 := by omega
      by_cases h2 : A1 < n
      · have h2i : (A1 : Int) < (n : Int) := by omega
        by_cases h3 : B1 < n
        · have h3i : (B1 : Int) < (n : Int) := by omega
          obtain ⟨b1, o1, rfl, _, q1⟩ := HR.out.row.at_ (k := A1) h2
          obtain ⟨b2, o2, e2, _, q2⟩ := HR.out.row.at_ (k := B1) h3
          injection e2 with e2
          injection e2 with e3 e4 _
          subst e3 e4
          obtain ⟨x, hx⟩ : ∃ x, x = gt l A1 := ⟨_, rfl⟩
          obtain ⟨y, hy⟩ : ∃ y, y = gt l B1 := ⟨_, rfl⟩
          rw [← hx] at q1
          rw [← hy] at q2
          have hne := n_beq2 x y
          by_cases hE : x = y
          · have hs2 : Hid (∀ z, z < j + 1 → gt l (a + z) = gt l (b + z)) := fun z hz => by
              rcases Nat.lt_or_ge z j with h9 | h9
              · exact hs.out z h9
              · obtain rfl : z = j := by omega
                rw [← hA1, ← hB1, ← hx, ← hy, hE]
            have hin2 : Hid (j + 1 = 0 ∨ a + (j + 1) ≤ n ∧ b + (j + 1) ≤ n) := by unfold Hid; omega
            rw [decide_eq_true hE] at hne
            clear hE hx hy hstop hA1 hB1 h2 h3
            go_wp2
            go_quiet (fail)
            go_wp2
            go_roundw
            case rel => exact ⟨j + 1, q + nq, by go_num, by omega, rfl, hin2, hs2⟩
            case measure => simp [intOf]; omega
          · have hres := Lib.hid (hstop fun h9 => hE (by rw [hx, hy]; exact h9.2.2.2))
            rw [decide_eq_false hE] at hne
            clear hE hx hy hstop hA1 hB1 h2 h3
            go_wp2
            go_quiet (fail)
            go_wp2
            go_ret
            rw [hres.out]
            exact ⟨rfl, q + nq, World.drewN_drewN _ _ _⟩
        · have h3i : decide (B1 < n) = false := decide_eq_false h3
          have hres := Lib.hid (hstop fun h9 => h3 h9.2.2.1)
          clear hstop hA1 hB1 h2 h3
          go_wp2
          go_quiet (fail)
          go_wp2
          go_ret
          rw [hres.out]
          exact ⟨rfl, q + nq, World.drewN_drewN _ _ _⟩
      · have h2i : decide (A1 < n) = false := decide_eq_false h2
        have hres := Lib.hid (hstop fun h9 => h2 h9.2.1)
        clear hstop hA1 hB1 h2
        go_wp2
        go_quiet (fail)
        go_wp2
        go_ret
        rw [hres.out]
        exact ⟨rfl, q + nq, World.drewN_drewN _ _ _⟩
    · have h1i : decide ((j : Int) < 258) = false := decide_eq_false (by omega)
      have hres := Lib.hid (hstop fun h9 => h1 h9.1)
      clear hstop hA1 hB1
      go_wp2
      go_quiet (fail)
      go_wp2
      go_ret
      rw [hres.out]
      exact ⟨rfl, q + nq, World.drewN_drewN _ _ _⟩
end Go.Proofs.Ytkjogejakenmeaa
