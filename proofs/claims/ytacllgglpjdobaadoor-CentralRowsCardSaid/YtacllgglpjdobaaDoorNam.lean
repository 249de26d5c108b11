/-
  NAMES, WITHOUT ANY PROGRAM: runes of a row of bytes, which may stand in a name, parts between which a / stands, small letters. No conditions.
-/
import Derived.Lib.DecodeN
namespace Go.Proofs.YtacllgglpjdobaaDoor
set_option linter.unusedVariables false
set_option maxRecDepth 100000

/-- a string of bytes -/
def S (l : List UInt8) : ByteArray := ⟨l.toArray⟩
theorem S_size (l : List UInt8) : (S l).size = l.length := by simp [S, ByteArray.size]
theorem S_of (s : ByteArray) : S s.data.toList = s := by cases s; simp [S]
theorem S_inj {a b : List UInt8} : S a = S b ↔ a = b := by
  constructor
  · intro h
    have := congrArg (fun s => s.data.toList) h
    simpa [S] using this
  · rintro rfl; rfl
def gb (l : List UInt8) (i : Nat) : Nat := (l.getD i 0).toNat
theorem gb_lt (l : List UInt8) (i : Nat) : gb l i < 256 := (l.getD i 0).toNat_lt
theorem gb_drop (l : List UInt8) (k i : Nat) : gb (l.drop k) i = gb l (k + i) := by simp [gb, List.getD, List.getElem?_drop]
theorem gb_append (a b : List UInt8) (i : Nat) : gb (a ++ b) i = if i < a.length then gb a i else gb b (i - a.length) := by
  simp only [gb, List.getD, List.getElem?_append]
  split <;> rfl
theorem gb_cons (x : UInt8) (l : List UInt8) : gb (x :: l) 0 = x.toNat := rfl
theorem S_get (l : List UInt8) (i : Nat) : ((S l).get! i).toNat = gb l i := by
  show (l.toArray[i]!).toNat = _
  unfold gb
  by_cases h : i < l.length
  · simp [h, List.getD]
  · simp [h, List.getD]
    rfl
theorem S_extract (l : List UInt8) (a b : Nat) (h : b ≤ l.length) : (S l).extract a b = S ((l.take b).drop a) := by
  have : ∀ x y : ByteArray, x.data = y.data → x = y := by intro x y h; cases x; cases y; simpa using h
  apply this
  rw [ByteArray.data_extract]
  simp [S]
  rw [List.drop_take]
/-- the rune at the beginning, and its width, as the language has it -/
def dec (l : List UInt8) : Nat × Nat := Lib.decodeN l.length (gb l 0) (gb l 1) (gb l 2) (gb l 3)
theorem dec_S (l : List UInt8) (i : Nat) : Utf8.decode (S l) i = dec (l.drop i) := by
  rw [Lib.decode_at, S_size, S_get, S_get, S_get, S_get]
  unfold dec
  rw [List.length_drop, gb_drop, gb_drop, gb_drop, gb_drop]
  rfl
/-- what a rune's decoding says: a byte alone; no UTF-8; or two to four bytes that lie within the row -/
theorem dec_ways (l : List UInt8) (h : l ≠ []) : (gb l 0 < 128 ∧ dec l = (gb l 0, 1)) ∨ (128 ≤ gb l 0 ∧ dec l = (65533, 1)) ∨
    (128 ≤ gb l 0 ∧ 2 ≤ (dec l).2 ∧ (dec l).2 ≤ 4 ∧ (dec l).2 ≤ l.length ∧ 128 ≤ (dec l).1 ∧ (dec l).1 ≤ 1114111 ∧ (∀ k, 1 ≤ k → k < (dec l).2 → gb l k / 64 = 2) ∧
      ∀ m : List UInt8, (dec l).2 ≤ m.length → (∀ k, k < (dec l).2 → gb m k = gb l k) → dec m = dec l) := by
  have hl : 0 < l.length := List.length_pos_iff.2 h
  have b0 := gb_lt l 0
  by_cases h0 : gb l 0 < 128
  · left
    refine ⟨h0, ?_⟩
    unfold dec Lib.decodeN
    rw [if_pos h0]
  · right
    have h0' : 128 ≤ gb l 0 := by omega
    by_cases h2 : gb l 0 / 32 = 6 ∧ (1 < l.length ∧ gb l 1 / 64 = 2)
    · by_cases g2 : gb l 0 % 32 * 64 + gb l 1 % 64 ≥ 128
      · right
        have e : dec l = (gb l 0 % 32 * 64 + gb l 1 % 64, 2) := by unfold dec Lib.decodeN; rw [if_neg h0, if_pos h2, if_pos g2]
        refine ⟨h0', ?_⟩
        rw [e]
        dsimp only
        refine ⟨by omega, by omega, by omega, by omega, by omega, fun k k1 k2 => ?_, fun m hm hk => ?_⟩
        · obtain rfl : k = 1 := by omega
          exact h2.2.2
        · have a0 := hk 0 (by omega)
          have a1 := hk 1 (by omega)
          unfold dec Lib.decodeN
          rw [a0, a1, if_neg h0, if_pos ⟨h2.1, by omega, h2.2.2⟩, if_pos g2]
      · left
        refine ⟨h0', ?_⟩
        unfold dec Lib.decodeN
        rw [if_neg h0, if_pos h2, if_neg g2]
    · by_cases h3 : gb l 0 / 16 = 14 ∧ (1 < l.length ∧ gb l 1 / 64 = 2) ∧ (2 < l.length ∧ gb l 2 / 64 = 2)
      · by_cases g3 : gb l 0 % 16 * 4096 + gb l 1 % 64 * 64 + gb l 2 % 64 ≥ 2048 ∧ (gb l 0 % 16 * 4096 + gb l 1 % 64 * 64 + gb l 2 % 64 < 55296 ∨ (57344 ≤ gb l 0 % 16 * 4096 + gb l 1 % 64 * 64 + gb l 2 % 64 ∧ gb l 0 % 16 * 4096 + gb l 1 % 64 * 64 + gb l 2 % 64 ≤ 1114111))
        · right
          have e : dec l = (gb l 0 % 16 * 4096 + gb l 1 % 64 * 64 + gb l 2 % 64, 3) := by unfold dec Lib.decodeN; rw [if_neg h0, if_neg h2, if_pos h3, if_pos g3]
          refine ⟨h0', ?_⟩
          rw [e]
          dsimp only
          refine ⟨by omega, by omega, by omega, by omega, by omega, fun k k1 k2 => ?_, fun m hm hk => ?_⟩
          · rcases (by omega : k = 1 ∨ k = 2) with rfl | rfl
            · exact h3.2.1.2
            · exact h3.2.2.2
          · have a0 := hk 0 (by omega)
            have a1 := hk 1 (by omega)
            have a2 := hk 2 (by omega)
            unfold dec Lib.decodeN
            rw [a0, a1, a2, if_neg h0, if_neg (by omega), if_pos ⟨h3.1, ⟨by omega, h3.2.1.2⟩, by omega, h3.2.2.2⟩, if_pos g3]
        · left
          refine ⟨h0', ?_⟩
          unfold dec Lib.decodeN
          rw [if_neg h0, if_neg h2, if_pos h3, if_neg g3]
      · by_cases h4 : gb l 0 / 8 = 30 ∧ (1 < l.length ∧ gb l 1 / 64 = 2) ∧ (2 < l.length ∧ gb l 2 / 64 = 2) ∧ (3 < l.length ∧ gb l 3 / 64 = 2)
        · by_cases g4 : gb l 0 % 8 * 262144 + gb l 1 % 64 * 4096 + gb l 2 % 64 * 64 + gb l 3 % 64 ≥ 65536 ∧ (gb l 0 % 8 * 262144 + gb l 1 % 64 * 4096 + gb l 2 % 64 * 64 + gb l 3 % 64 < 55296 ∨ (57344 ≤ gb l 0 % 8 * 262144 + gb l 1 % 64 * 4096 + gb l 2 % 64 * 64 + gb l 3 % 64 ∧ gb l 0 % 8 * 262144 + gb l 1 % 64 * 4096 + gb l 2 % 64 * 64 + gb l 3 % 64 ≤ 1114111))
          · right
            have e : dec l = (gb l 0 % 8 * 262144 + gb l 1 % 64 * 4096 + gb l 2 % 64 * 64 + gb l 3 % 64, 4) := by unfold dec Lib.decodeN; rw [if_neg h0, if_neg h2, if_neg h3, if_pos h4, if_pos g4]
            refine ⟨h0', ?_⟩
            rw [e]
            dsimp only
            refine ⟨by omega, by omega, by omega, by omega, by omega, fun k k1 k2 => ?_, fun m hm hk => ?_⟩
            · rcases (by omega : k = 1 ∨ k = 2 ∨ k = 3) with rfl | rfl | rfl
              · exact h4.2.1.2
              · exact h4.2.2.1.2
              · exact h4.2.2.2.2
            · have a0 := hk 0 (by omega)
              have a1 := hk 1 (by omega)
              have a2 := hk 2 (by omega)
              have a3 := hk 3 (by omega)
              unfold dec Lib.decodeN
              rw [a0, a1, a2, a3, if_neg h0, if_neg (by omega), if_neg (by omega), if_pos ⟨h4.1, ⟨by omega, h4.2.1.2⟩, ⟨by omega, h4.2.2.1.2⟩, by omega, h4.2.2.2.2⟩, if_pos g4]
          · left
            refine ⟨h0', ?_⟩
            unfold dec Lib.decodeN
            rw [if_neg h0, if_neg h2, if_neg h3, if_pos h4, if_neg g4]
        · left
          refine ⟨h0', ?_⟩
          unfold dec Lib.decodeN
          rw [if_neg h0, if_neg h2, if_neg h3, if_neg h4]
theorem stp_pos (l : List UInt8) (h : l ≠ []) : 1 ≤ (dec l).2 ∧ (dec l).2 ≤ l.length ∧ (dec l).1 ≤ 1114111 := by
  have hl : 0 < l.length := List.length_pos_iff.2 h
  have := gb_lt l 0
  rcases dec_ways l h with ⟨_, e⟩ | ⟨_, e⟩ | ⟨_, h1, _, h2, _, h3, _⟩
  · rw [e]; exact ⟨Nat.le_refl _, hl, by dsimp only; omega⟩
  · rw [e]; exact ⟨Nat.le_refl _, hl, by dsimp only; omega⟩
  · exact ⟨by omega, h2, h3⟩
/-- may a rune stand in a name? -/
def okc (c : Nat) : Bool := decide (¬ (c < 32 ∨ (127 ≤ c ∧ c ≤ 159) ∨ c = 92 ∨ c = 58 ∨ c = 65533))
def oksF : Nat → List UInt8 → Bool
  | 0, _ => true
  | f + 1, l => if l = [] then true else okc (dec l).1 && oksF f (l.drop (dec l).2)
def cntF : Nat → List UInt8 → Nat
  | 0, _ => 0
  | f + 1, l => if l = [] then 0 else cntF f (l.drop (dec l).2) + 1
theorem fuel_more : ∀ (f g : Nat) (l : List UInt8), l.length ≤ f → l.length ≤ g → oksF f l = oksF g l ∧ cntF f l = cntF g l := by
  intro f
  induction f with
  | zero =>
    intro g l hf hg
    obtain rfl : l = [] := List.length_eq_zero_iff.1 (by omega)
    cases g <;> simp [oksF, cntF]
  | succ f ih =>
    intro g l hf hg
    by_cases h : l = []
    · subst h
      cases g <;> simp [oksF, cntF]
    · have hl : 0 < l.length := List.length_pos_iff.2 h
      cases g with
      | zero => omega
      | succ g =>
        have h1 := (stp_pos l h).1
        have := ih g (l.drop (dec l).2) (by rw [List.length_drop]; omega) (by rw [List.length_drop]; omega)
        simp only [oksF, cntF, if_neg h, this.1, this.2, and_self]
/-- may all runes stand in a name? -/
def oks (l : List UInt8) : Bool := oksF l.length l
/-- how many runes there are -/
def cnt (l : List UInt8) : Nat := cntF l.length l
theorem oks_nil : oks [] = true := rfl
theorem cnt_nil : cnt [] = 0 := rfl
theorem oks_step {l : List UInt8} (h : l ≠ []) : oks l = (okc (dec l).1 && oks (l.drop (dec l).2)) := by
  have hl : 0 < l.length := List.length_pos_iff.2 h
  have h1 := (stp_pos l h).1
  unfold oks
  obtain ⟨n, hn⟩ : ∃ n, l.length = n + 1 := ⟨l.length - 1, by omega⟩
  rw [hn]
  show (if l = [] then true else _) = _
  rw [if_neg h, (fuel_more n (l.drop (dec l).2).length _ (by rw [List.length_drop]; omega) (Nat.le_refl _)).1]
theorem cnt_step {l : List UInt8} (h : l ≠ []) : cnt l = cnt (l.drop (dec l).2) + 1 := by
  have hl : 0 < l.length := List.length_pos_iff.2 h
  have h1 := (stp_pos l h).1
  unfold cnt
  obtain ⟨n, hn⟩ : ∃ n, l.length = n + 1 := ⟨l.length - 1, by omega⟩
  rw [hn]
  show (if l = [] then 0 else _) = _
  rw [if_neg h, (fuel_more n (l.drop (dec l).2).length _ (by rw [List.length_drop]; omega) (Nat.le_refl _)).2]
theorem cnt_le (l : List UInt8) : cnt l ≤ l.length := by
  have : ∀ n (l : List UInt8), l.length ≤ n → cnt l ≤ l.length := by
    intro n
    induction n with
    | zero => intro l h; obtain rfl : l = [] := List.length_eq_zero_iff.1 (by omega); simp [cnt_nil]
    | succ n ih =>
      intro l h
      by_cases h0 : l = []
      · subst h0; simp [cnt_nil]
      · have h1 := stp_pos l h0
        rw [cnt_step h0]
        have := ih (l.drop (dec l).2) (by rw [List.length_drop]; omega)
        rw [List.length_drop] at this
        omega
  exact this _ l (Nat.le_refl _)
theorem ne_nil {a x : List UInt8} (h : a ≠ []) : a ++ x ≠ [] := by simp [h]
/-- a rune that is whole is the same, whatever follows -/
theorem dec_app (a x : List UInt8) (h : a ≠ []) (hk : okc (dec a).1 = true) : dec (a ++ x) = dec a := by
  have hl : 0 < a.length := List.length_pos_iff.2 h
  rcases dec_ways a h with ⟨h0, e⟩ | ⟨_, e⟩ | ⟨h0, h1, h2, h3, _, _, _, h6⟩
  · have g0 : gb (a ++ x) 0 = gb a 0 := by rw [gb_append, if_pos hl]
    rcases dec_ways (a ++ x) (ne_nil h) with ⟨_, e2⟩ | ⟨h7, _⟩ | ⟨h7, _⟩
    · rw [e2, e, g0]
    · omega
    · omega
  · rw [e] at hk; exact absurd hk (by decide)
  · exact h6 _ (by rw [List.length_append]; omega) fun k hk => by rw [gb_append, if_pos (by omega)]
/-- of what stands ahead of a / each rune lies ahead of it -/
theorem dec_cut (a r : List UInt8) (h : a ≠ []) (hk : okc (dec (a ++ 47 :: r)).1 = true) : dec (a ++ 47 :: r) = dec a := by
  have hl : 0 < a.length := List.length_pos_iff.2 h
  have g0 : gb (a ++ 47 :: r) 0 = gb a 0 := by rw [gb_append, if_pos hl]
  rcases dec_ways (a ++ 47 :: r) (ne_nil h) with ⟨h0, e⟩ | ⟨_, e⟩ | ⟨h0, h1, h2, h3, _, _, h5, h6⟩
  · rcases dec_ways a h with ⟨_, e2⟩ | ⟨h7, _⟩ | ⟨h7, _⟩
    · rw [e2, e, g0]
    · omega
    · omega
  · rw [e] at hk; exact absurd hk (by decide)
  · have hle : (dec (a ++ 47 :: r)).2 ≤ a.length := by
      rcases Nat.lt_or_ge a.length (dec (a ++ 47 :: r)).2 with h9 | h9
      · have := h5 a.length hl h9
        rw [gb_append, if_neg (Nat.lt_irrefl _), Nat.sub_self, gb_cons] at this
        exact absurd this (by decide)
      · exact h9
    exact (h6 a hle fun k hk => by rw [gb_append, if_pos (by omega)]).symm
theorem oks_app : ∀ (n : Nat) (a x : List UInt8), a.length ≤ n → oks a = true → oks (a ++ x) = oks x ∧ cnt (a ++ x) = cnt a + cnt x := by
  intro n
  induction n with
  | zero => intro a x h _; obtain rfl : a = [] := List.length_eq_zero_iff.1 (by omega); simp [cnt_nil]
  | succ n ih =>
    intro a x h hk
    by_cases h0 : a = []
    · subst h0; simp [cnt_nil]
    · have h1 := stp_pos a h0
      rw [oks_step h0, Bool.and_eq_true] at hk
      have e := dec_app a x h0 hk.1
      have e2 : (a ++ x).drop (dec a).2 = a.drop (dec a).2 ++ x := by rw [List.drop_append_of_le_length h1.2.1]
      have := ih (a.drop (dec a).2) x (by rw [List.length_drop]; omega) hk.2
      rw [oks_step (ne_nil h0), cnt_step (ne_nil h0), e, e2, this.1, this.2, hk.1, Bool.true_and, cnt_step h0]
      exact ⟨rfl, by omega⟩
theorem dec_slash (r : List UInt8) : dec (47 :: r) = (47, 1) := by
  rcases dec_ways (47 :: r) (by simp) with ⟨_, e⟩ | ⟨h, _⟩ | ⟨h, _⟩
  · rw [e]; rfl
  · rw [gb_cons] at h; exact absurd h (by decide)
  · rw [gb_cons] at h; exact absurd h (by decide)
theorem oks_slash (r : List UInt8) : oks (47 :: r) = oks r := by
  rw [oks_step (by simp), dec_slash]
  show (okc 47 && _) = _
  rw [show okc 47 = true by decide, Bool.true_and]
  rfl
theorem cnt_slash (r : List UInt8) : cnt (47 :: r) = cnt r + 1 := by
  rw [cnt_step (by simp), dec_slash]
  rfl
theorem oks_cut : ∀ (n : Nat) (a r : List UInt8), a.length ≤ n → oks (a ++ 47 :: r) = true → oks a = true ∧ oks r = true := by
  intro n
  induction n with
  | zero =>
    intro a r h hk
    obtain rfl : a = [] := List.length_eq_zero_iff.1 (by omega)
    rw [List.nil_append, oks_slash] at hk
    exact ⟨rfl, hk⟩
  | succ n ih =>
    intro a r h hk
    by_cases h0 : a = []
    · subst h0
      rw [List.nil_append, oks_slash] at hk
      exact ⟨rfl, hk⟩
    · have h1 := stp_pos a h0
      rw [oks_step (ne_nil h0), Bool.and_eq_true] at hk
      have e := dec_cut a r h0 hk.1
      rw [e] at hk
      rw [List.drop_append_of_le_length h1.2.1] at hk
      have := ih (a.drop (dec a).2) r (by rw [List.length_drop]; omega) hk.2
      rw [oks_step h0, hk.1, this.1]
      exact ⟨rfl, this.2⟩
/-! ### Parts -/
def spl : List UInt8 → List (List UInt8)
  | [] => [[]]
  | x :: r => if x = 47 then [] :: spl r else match spl r with | [] => [[x]] | p :: q => (x :: p) :: q
theorem spl_ne (l : List UInt8) : spl l ≠ [] := by
  cases l with
  | nil => simp [spl]
  | cons x r =>
    unfold spl
    split
    · simp
    · split <;> simp
theorem spl_cons {x : UInt8} (h : x ≠ 47) (r : List UInt8) : ∃ p q, spl r = p :: q ∧ spl (x :: r) = (x :: p) :: q := by
  cases hs : spl r with
  | nil => exact absurd hs (spl_ne r)
  | cons p q => exact ⟨p, q, rfl, by simp only [spl, if_neg h, hs]⟩
/-- two rows with a / between: the parts of both -/
theorem spl_app (a b : List UInt8) : spl (a ++ 47 :: b) = spl a ++ spl b := by
  induction a with
  | nil => simp [spl]
  | cons x r ih =>
    by_cases h : x = 47
    · subst h
      show spl (47 :: (r ++ 47 :: b)) = _
      simp only [spl, if_true, ih, List.cons_append]
    · obtain ⟨p, q, h1, h2⟩ := spl_cons h r
      obtain ⟨p', q', h3, h4⟩ := spl_cons h (r ++ 47 :: b)
      rw [List.cons_append, h4, h2]
      rw [ih, h1, List.cons_append] at h3
      obtain ⟨rfl, rfl⟩ := List.cons.inj h3
      rfl
theorem spl_one {a : List UInt8} (h : 47 ∉ a) : spl a = [a] := by
  induction a with
  | nil => rfl
  | cons x r ih =>
    have h1 : x ≠ 47 := fun e => h (by simp [e])
    have h2 : 47 ∉ r := fun e => h (by simp [e])
    simp only [spl, if_neg h1, ih h2]
theorem spl_no {l p : List UInt8} (h : p ∈ spl l) : 47 ∉ p := by
  induction l generalizing p with
  | nil => simp [spl] at h; subst h; simp
  | cons x r ih =>
    by_cases h1 : x = 47
    · subst h1
      simp only [spl, if_true, List.mem_cons] at h
      rcases h with rfl | h
      · simp
      · exact ih h
    · obtain ⟨a, q, h2, h3⟩ := spl_cons h1 r
      rw [h3, List.mem_cons] at h
      rcases h with rfl | h
      · have := ih (p := a) (by rw [h2]; simp)
        simp only [List.mem_cons, not_or]
        exact ⟨fun e => h1 e.symm, this⟩
      · exact ih (by rw [h2]; simp [h])
/-- the first part, and what follows it -/
theorem spl_first (l : List UInt8) : ∃ p r, 47 ∉ p ∧ (l = p ∧ spl l = [p] ∧ r = [] ∨ l = p ++ 47 :: r ∧ spl l = p :: spl r) := by
  induction l with
  | nil => exact ⟨[], [], by simp, .inl ⟨rfl, rfl, rfl⟩⟩
  | cons x r ih =>
    by_cases h : x = 47
    · subst h
      exact ⟨[], r, by simp, .inr ⟨rfl, by simp [spl]⟩⟩
    · obtain ⟨p, r', hp, ih⟩ := ih
      have hx : 47 ∉ x :: p := by simp only [List.mem_cons, not_or]; exact ⟨fun e => h e.symm, hp⟩
      rcases ih with ⟨rfl, _, rfl⟩ | ⟨rfl, _⟩
      · exact ⟨x :: r, [], hx, .inl ⟨rfl, spl_one hx, rfl⟩⟩
      · refine ⟨x :: p, r', hx, .inr ⟨rfl, ?_⟩⟩
        rw [← List.cons_append, spl_app, spl_one hx]
        rfl
/-- a right part -/
def okp (p : List UInt8) : Bool := decide (p ≠ [] ∧ p ≠ [46] ∧ p ≠ [46, 46])
/-- a right name -/
def nok (l : List UInt8) : Bool := decide (l ≠ [] ∧ l.length ≤ 255) && (oks l && (spl l).all okp)
theorem nok_iff (l : List UInt8) : nok l = true ↔ l ≠ [] ∧ l.length ≤ 255 ∧ oks l = true ∧ ∀ p ∈ spl l, okp p = true := by
  simp [nok, Bool.and_eq_true, and_assoc]
/-- two right names with a / between are right, if they are not too long -/
theorem nok_join {a b : List UInt8} (ha : nok a = true) (hb : nok b = true) (hl : (a ++ 47 :: b).length ≤ 255) : nok (a ++ 47 :: b) = true := by
  rw [nok_iff] at ha hb ⊢
  refine ⟨by simp, hl, ?_, fun p hp => ?_⟩
  · rw [(oks_app _ a _ (Nat.le_refl _) ha.2.2.1).1, oks_slash, hb.2.2.1]
  · rw [spl_app, List.mem_append] at hp
    rcases hp with hp | hp
    · exact ha.2.2.2 p hp
    · exact hb.2.2.2 p hp
theorem cnt_join {a : List UInt8} (ha : nok a = true) (b : List UInt8) : cnt (a ++ 47 :: b) = cnt a + cnt b + 1 := by
  rw [nok_iff] at ha
  rw [(oks_app _ a _ (Nat.le_refl _) ha.2.2.1).2, cnt_slash]
  omega
/-- what stands ahead of a / of a right name, and behind it, is right -/
theorem nok_cut {a r : List UInt8} (h : nok (a ++ 47 :: r) = true) : nok a = true ∧ nok r = true := by
  rw [nok_iff] at h
  obtain ⟨_, h1, h2, h3⟩ := h
  obtain ⟨k1, k2⟩ := oks_cut _ a r (Nat.le_refl _) h2
  rw [spl_app] at h3
  rw [List.length_append, List.length_cons] at h1
  have ne : ∀ x : List UInt8, (∀ p ∈ spl x, okp p = true) → x ≠ [] := fun x hx e => by
    subst e
    exact absurd (hx [] (by simp [spl])) (by decide)
  have q1 : ∀ p ∈ spl a, okp p = true := fun p hp => h3 p (by simp [hp])
  have q2 : ∀ p ∈ spl r, okp p = true := fun p hp => h3 p (by simp [hp])
  exact ⟨(nok_iff a).2 ⟨ne a q1, by omega, k1, q1⟩, (nok_iff r).2 ⟨ne r q2, by omega, k2, q2⟩⟩
/-! ### Small letters -/
def fob (x : UInt8) : UInt8 := if 65 ≤ x ∧ x ≤ 90 then x + 32 else x
def fol (l : List UInt8) : List UInt8 := l.map fob
theorem fob_n (x : UInt8) : (fob x).toNat = if 65 ≤ x.toNat ∧ x.toNat ≤ 90 then x.toNat + 32 else x.toNat := by
  unfold fob
  by_cases h : 65 ≤ x.toNat ∧ x.toNat ≤ 90
  · have h2 : 65 ≤ x ∧ x ≤ 90 := h
    rw [if_pos h, if_pos h2, UInt8.toNat_add]
    show (x.toNat + 32) % 256 = _
    omega
  · have h2 : ¬ (65 ≤ x ∧ x ≤ 90) := h
    rw [if_neg h, if_neg h2]
theorem fob_fob (x : UInt8) : fob (fob x) = fob x := by
  apply UInt8.toNat_inj.1
  have h1 := fob_n (fob x)
  have h2 := fob_n x
  split at h1 <;> split at h2 <;> omega
theorem fol_fol (l : List UInt8) : fol (fol l) = fol l := by simp [fol, fob_fob]
theorem fol_length (l : List UInt8) : (fol l).length = l.length := by simp [fol]
theorem fol_append (a b : List UInt8) : fol (a ++ b) = fol a ++ fol b := by simp [fol]
theorem gb_fol (l : List UInt8) (i : Nat) : gb (fol l) i = if 65 ≤ gb l i ∧ gb l i ≤ 90 then gb l i + 32 else gb l i := by
  by_cases h : i < l.length
  · simp only [gb, fol, List.getD, List.getElem?_map, List.getElem?_eq_getElem h, Option.map_some, Option.getD_some]
    exact fob_n _
  · simp [gb, fol, List.getD, h]
theorem dec_fol (l : List UInt8) (h : l ≠ []) : (dec (fol l)).2 = (dec l).2 ∧ okc (dec (fol l)).1 = okc (dec l).1 := by
  have hf : fol l ≠ [] := by simpa [fol] using h
  have f0 := gb_fol l 0
  have hb := gb_lt l 0
  rcases dec_ways l h with ⟨h0, e⟩ | ⟨h0, e⟩ | ⟨h0, h1, h2, h3, _, _, h5, h6⟩
  · rcases dec_ways (fol l) hf with ⟨h7, e2⟩ | ⟨h7, _⟩ | ⟨h7, _⟩
    · rw [e, e2]
      refine ⟨rfl, ?_⟩
      dsimp only
      unfold okc
      rw [f0]
      apply decide_eq_decide.2
      split <;> omega
    · split at f0 <;> omega
    · split at f0 <;> omega
  · have g0 : gb (fol l) 0 = gb l 0 := by rw [f0, if_neg (by omega)]
    rcases dec_ways (fol l) hf with ⟨h7, e2⟩ | ⟨h7, e2⟩ | ⟨h7, k1, k2, k3, _, _, k5, k6⟩
    · omega
    · rw [e, e2]; exact ⟨rfl, rfl⟩
    · have := k6 l (by rw [fol_length] at k3; exact k3) fun k hk => by
        rcases Nat.eq_zero_or_pos k with rfl | hp
        · exact g0.symm
        · have := k5 k hp hk
          have f := gb_fol l k
          split at f <;> omega
      rw [this]
      exact ⟨rfl, rfl⟩
  · have := h6 (fol l) (by rw [fol_length]; exact h3) fun k hk => by
      have f := gb_fol l k
      rcases Nat.eq_zero_or_pos k with rfl | hp
      · rw [f, if_neg (by omega)]
      · have := h5 k hp hk
        rw [f, if_neg (by omega)]
    rw [this]
    exact ⟨rfl, rfl⟩
theorem fol_drop (l : List UInt8) (k : Nat) : (fol l).drop k = fol (l.drop k) := by simp [fol, List.map_drop]
theorem oks_fol : ∀ (n : Nat) (l : List UInt8), l.length ≤ n → oks (fol l) = oks l ∧ cnt (fol l) = cnt l := by
  intro n
  induction n with
  | zero => intro l h; obtain rfl : l = [] := List.length_eq_zero_iff.1 (by omega); exact ⟨rfl, rfl⟩
  | succ n ih =>
    intro l h
    by_cases h0 : l = []
    · subst h0; exact ⟨rfl, rfl⟩
    · have hf : fol l ≠ [] := by simpa [fol] using h0
      have h1 := stp_pos l h0
      obtain ⟨e1, e2⟩ := dec_fol l h0
      have := ih (l.drop (dec l).2) (by rw [List.length_drop]; omega)
      rw [oks_step hf, oks_step h0, cnt_step hf, cnt_step h0, e1, e2, fol_drop, this.1, this.2]
      exact ⟨rfl, rfl⟩
theorem fob_slash {x : UInt8} : fob x = 47 ↔ x = 47 := by
  constructor
  · intro h
    have := congrArg UInt8.toNat h
    rw [fob_n] at this
    apply UInt8.toNat_inj.1
    have e : (47 : UInt8).toNat = 47 := rfl
    rw [e] at this ⊢
    split at this <;> omega
  · rintro rfl; rfl
theorem fob_dot {x : UInt8} : fob x = 46 ↔ x = 46 := by
  constructor
  · intro h
    have := congrArg UInt8.toNat h
    rw [fob_n] at this
    apply UInt8.toNat_inj.1
    have e : (46 : UInt8).toNat = 46 := rfl
    rw [e] at this ⊢
    split at this <;> omega
  · rintro rfl; rfl
theorem spl_fol (l : List UInt8) : spl (fol l) = (spl l).map fol := by
  induction l with
  | nil => rfl
  | cons x r ih =>
    by_cases h : x = 47
    · subst h
      show spl (47 :: fol r) = _
      simp only [spl, if_true, ih, List.map_cons]
      rfl
    · obtain ⟨p, q, h1, h2⟩ := spl_cons h r
      obtain ⟨p', q', h3, h4⟩ := spl_cons (x := fob x) (fun e => h (fob_slash.1 e)) (fol r)
      show spl (fob x :: fol r) = _
      rw [h4, h2]
      rw [ih, h1] at h3
      simp only [List.map_cons, List.cons.injEq] at h3 ⊢
      obtain ⟨rfl, rfl⟩ := h3
      exact ⟨rfl, rfl⟩
theorem okp_fol (p : List UInt8) : okp (fol p) = okp p := by
  unfold okp
  apply decide_eq_decide.2
  have e1 : fol p = [46] ↔ p = [46] := by
    match p with
    | [] => simp [fol]
    | [x] => simp [fol, fob_dot]
    | _ :: _ :: _ => simp [fol]
  have e2 : fol p = [46, 46] ↔ p = [46, 46] := by
    match p with
    | [] => simp [fol]
    | [x] => simp [fol]
    | [x, y] => simp [fol, fob_dot]
    | _ :: _ :: _ :: _ => simp [fol]
  have e3 : fol p = [] ↔ p = [] := by simp [fol]
  rw [Ne, Ne, Ne, e1, e2, e3]
theorem nok_fol (l : List UInt8) : nok (fol l) = nok l := by
  have h1 : decide (fol l ≠ [] ∧ (fol l).length ≤ 255) = decide (l ≠ [] ∧ l.length ≤ 255) := by
    apply decide_eq_decide.2
    rw [fol_length]
    simp [fol]
  unfold nok
  rw [h1, (oks_fol _ l (Nat.le_refl _)).1, spl_fol, List.all_map]
  congr 2
  apply List.all_congr rfl
  intro p
  exact okp_fol p
end Go.Proofs.YtacllgglpjdobaaDoor
