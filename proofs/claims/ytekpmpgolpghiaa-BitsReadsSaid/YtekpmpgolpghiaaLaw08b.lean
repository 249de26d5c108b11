/-
  LAW 08's WALK: BitsBack: it returns true, and writes nothing that was there. No conditions.
-/
import Derived.Test.YtekpmpgolpghiaaLaw08a
import Derived.Test.YtekpmpgolpghiaaOps
namespace Go.Proofs.Ytekpmpgolpghiaa
open Go.RowKit
set_option maxRecDepth 100000
set_option linter.unusedVariables false

theorem ret_bool7 {a b : Bool} (h : a = b) : Ending.returned (.bool a) = .returned (.bool b) := by rw [h]
/-- a step's number of bits -/
def nb (x : Int) : Nat := (x % 32).toNat
theorem nb_le (x : Int) : nb x ≤ 31 := by unfold nb; omega
theorem and31b (x : Int) : bits BinOp.and IntKind.i64 x 31 = (nb x : Int) := by
  have h := andLow x 5 (by decide)
  rw [show (31 : Int) = ((2 ^ 5 - 1 : Nat) : Int) from rfl, h]
  unfold nb
  omega
/-- a step's bits; those of the first k -/
def opB (K V N : Int) : List Bool := if K = 2 then codeB V.toNat (nb N) else putB V.toNat (nb N)
def catB (K V N : Nat → Int) : Nat → List Bool
  | 0 => []
  | k + 1 => catB K V N k ++ opB (K k) (V k) (N k)
theorem opB_length (K V N : Int) : (opB K V N).length = nb N := by unfold opB; split <;> simp [codeB_length, putB_length]
theorem catB_le (K V N : Nat → Int) (k : Nat) : (catB K V N k).length ≤ 31 * k := by
  induction k with
  | zero => exact Nat.le_refl _
  | succ k ih =>
    have := nb_le (N k)
    show (catB K V N k ++ opB (K k) (V k) (N k)).length ≤ _
    rw [List.length_append, opB_length]
    omega
theorem catB_split (K V N : Nat → Int) {k n : Nat} (h : k < n) : ∃ Z, catB K V N n = catB K V N k ++ opB (K k) (V k) (N k) ++ Z := by
  induction n with
  | zero => omega
  | succ n ih =>
    rcases (show k < n ∨ k = n by omega) with h1 | rfl
    · obtain ⟨Z, hZ⟩ := ih h1
      exact ⟨Z ++ opB (K n) (V n) (N n), by show catB K V N n ++ _ = _; rw [hZ, List.append_assoc]⟩
    · exact ⟨[], by rw [List.append_nil]; rfl⟩
theorem catB_len_succ (K V N : Nat → Int) (k : Nat) : (catB K V N (k + 1)).length = (catB K V N k).length + nb (N k) := by
  show (catB K V N k ++ opB (K k) (V k) (N k)).length = _
  rw [List.length_append, opB_length]
theorem numB_one (l : List F) (a : Nat) : numB l a 1 = if rb l a then 1 else 0 := by
  show bsN _ 0 + (if rb l (a + 0) then 2 ^ 0 else 0) = _
  simp [bsN]
/-- what was put by steps is got -/
theorem back_put {K V N : Nat → Int} {k n : Nat} (h : k < n) (h2 : K k ≠ 2) : numB (pack (catB K V N n)) (catB K V N k).length (nb (N k)) = (V k).toNat % 2 ^ nb (N k) := by
  obtain ⟨Z, hZ⟩ := catB_split K V N h
  refine numB_put (Y := catB K V N k) (Z := Z) ?_ rfl
  rw [hZ]
  unfold opB
  rw [if_neg h2]
theorem back_code {K V N : Nat → Int} {k n j : Nat} (h : k < n) (h2 : K k = 2) (hj : j < nb (N k)) : numB (pack (catB K V N n)) ((catB K V N k).length + j) 1 = if (V k).toNat.testBit (nb (N k) - 1 - j) then 1 else 0 := by
  obtain ⟨Z, hZ⟩ := catB_split K V N h
  have hl : (opB (K k) (V k) (N k)).length = nb (N k) := opB_length _ _ _
  have e : gbit (catB K V N n) ((catB K V N k).length + j) = (V k).toNat.testBit (nb (N k) - 1 - j) := by
    rw [hZ, gbit_append, if_pos (by rw [List.length_append]; omega), gbit_append, if_neg (by omega), show (catB K V N k).length + j - (catB K V N k).length = j by omega]
    unfold opB
    rw [if_pos h2, gbit_codeB, decide_eq_true hj, Bool.true_and]
  rw [numB_one, rb_pack, e]
/-- a code's bit, as the law reckons it -/
theorem code_bit (v m i : Nat) (hv : v < 4294967296) (hi : i < m) : bits BinOp.and IntKind.u32 (((v % 2 ^ m : Nat) : Int) / 2 ^ i) 1 = ((if v.testBit i then 1 else 0 : Nat) : Int) := by
  have h1 : v % 2 ^ m < 4294967296 := Nat.lt_of_le_of_lt (Nat.mod_le _ _) hv
  have h2 : ((v % 2 ^ m : Nat) : Int) / 2 ^ i = ((v % 2 ^ m / 2 ^ i : Nat) : Int) := by simp
  rw [h2, odd32 _ (Nat.lt_of_le_of_lt (Nat.div_le_self _ _) h1)]
  have h3 : (v % 2 ^ m).testBit i = v.testBit i := by rw [Nat.testBit_mod_two_pow, decide_eq_true hi, Bool.true_and]
  rw [← h3, Nat.testBit_eq_decide_div_mod_eq]
  rcases Nat.mod_two_eq_zero_or_one (v % 2 ^ m / 2 ^ i) with h | h <;> simp [h]
section
variable {w : World} {p : Nat} {A : Option Addr} {len cap n : Nat} {X : List Bool}
theorem PutB_n (h : Wr w p A len cap n X) (v : Nat) (hv : v < 4294967296) (m : Nat) (hm : m ≤ 31) (hroom : n + 32 ≤ 1000000) :
    Calls Try.prog 28 #[.pointer (some ⟨p, 0, none⟩), .int .u32 v, .int .i64 m] w fun e w' => e = .returned (.tuple #[]) ∧ ∃ A' len' cap', Wr w' p A' len' cap' (n + m) (X ++ putB v m) ∧ WOut p (Value.slice A len cap).ownBlock (Value.slice A' len' cap').ownBlock w w' := by
  have h1 := PutB_c h v hv (m : Int) hroom
  rw [heldN_nat m 32 (by omega)] at h1
  exact h1
theorem CodeB_n (h : Wr w p A len cap n X) (v : Nat) (hv : v < 4294967296) (m : Nat) (hm : m ≤ 31) (hroom : n + 32 ≤ 1000000) :
    Calls Try.prog 30 #[.pointer (some ⟨p, 0, none⟩), .int .u32 v, .int .i64 m] w fun e w' => e = .returned (.tuple #[]) ∧ ∃ A' len' cap', Wr w' p A' len' cap' (n + m) (X ++ codeB v m) ∧ WOut p (Value.slice A len cap).ownBlock (Value.slice A' len' cap').ownBlock w w' := by
  have h1 := CodeB_c h v hv (m : Int) hroom
  rw [heldN_nat m 32 (by omega)] at h1
  exact h1
end
set_option maxHeartbeats 2000000 in
theorem walk_BitsBack (w : World) (A : Option Addr) (n ca : Nat) (K V N : Nat → Int) (BA : Nat → Option Addr) (BL BC : Nat → Nat) (BB : Nat → List F) (h : OpsIn w A n K V N BA BL BC BB) :
    Calls Try.prog 8 #[.slice A n ca] w fun e w' => e = .returned (.bool true) ∧ Below w.heap.size w w' := by
  have hnm := h.nmax
  by_cases hf : (∀ i, i < n → BL i ≤ 20) ∧ n ≤ 40
  · have hd : Hid (decide ((∀ i, i < n → BL i ≤ 20) ∧ n ≤ 40) = true) := decide_eq_true hf
    have hn40 : n ≤ 40 := hf.2
    clear hf
    go_enter Try.func8, Try.ntmps8
    go_wp2_with (first
      | (go_at_call 26; refine (alive08_c _).mono ?_; rintro e w1 ⟨rfl, hb1⟩)
      | (go_at_call 27; refine (few_c _ _ _ _ _ _ _ _ _ _ _ (h.below hb1)).mono ?_; rw [hd.out]; rintro e w2 ⟨rfl, hb2⟩))
    have hW0 := Wr.zero w2 _ rfl
    have h2 := (h.below hb1).below hb2
    have hbw := hb1.trans (hb2.mono hb1.size)
    have hC0 : Below w2.heap.size w2 (w2.alloc (.cells #[.slice none 0 0, .int .i64 0] 47)) := (Below.refl _ w2).alloc (Nat.le_refl _) _
    obtain ⟨p, hp⟩ : ∃ p, p = w2.heap.size := ⟨_, rfl⟩
    have hpw : w2.heap.size ≤ p := by omega
    rw [← hp] at hW0 ⊢
    have HP := Lib.hid hpw
    clear hp hpw h hb1 hb2 hd
    go_loopw [24] (fun i wr => ∃ (k len cap : Nat) (D : Option Addr), k ≤ n ∧ i = .int .i64 k ∧ Wr wr p D len cap (catB K V N k).length (catB K V N k) ∧ Below w2.heap.size w2 wr) (fun i _ => n - (intOf i).toNat)
    case atStart => exact ⟨0, 0, 0, none, by omega, rfl, hW0, hC0⟩
    case round =>
      obtain ⟨k, len, cap, D, hk, rfl, hW, hC⟩ := hrel
      have hlen := catB_le K V N k
      by_cases hlt : k < n
      · have hkn : (k : Int) < n := by omega
        obtain ⟨b, off, rfl, c0, c1, c2, c3⟩ := (h2.below hC).at_ hlt
        obtain ⟨v, hv, ev⟩ := num32_of (h2.wf k hlt).2.1
        rw [ev] at c1
        have e31 := and31b (N k)
        have hnb := nb_le (N k)
        have hsz := hC.size
        have hWo := hW.below ((Below.refl _ wr).alloc (Nat.le_refl _) (.cells #[.int .i64 (K k), .int .u32 v, .int .i64 (N k), .slice (BA k) (BL k) (BC k)] 50))
        have hCo := hC.alloc hsz (.cells #[.int .i64 (K k), .int .u32 v, .int .i64 (N k), .slice (BA k) (BL k) (BC k)] 50)
        by_cases hK : K k = 2
        · have hcat : Hid (catB K V N (k + 1) = catB K V N k ++ codeB v (nb (N k))) := by
            show catB K V N k ++ opB (K k) (V k) (N k) = _
            unfold opB
            rw [if_pos hK, ev, Int.toNat_natCast]
          have hKb : (K k == 2) = true := by rw [beq_iff_eq]; exact hK
          clear ev hK
          go_wp2_with (go_at_call 30; refine (CodeB_n hWo v hv (nb (N k)) hnb (by omega)).mono ?_; rintro e w3 ⟨rfl, D3, len3, cap3, hW3, hO3⟩)
          go_roundw
          case rel =>
            refine ⟨k + 1, len3, cap3, D3, by omega, by go_num, ?_, hCo.trans (hO3.low HP.out hWo.lt hWo.alo)⟩
            rw [hcat.out, List.length_append, codeB_length]
            exact hW3
          case measure => simp [intOf]; omega
        · have hcat : Hid (catB K V N (k + 1) = catB K V N k ++ putB v (nb (N k))) := by
            show catB K V N k ++ opB (K k) (V k) (N k) = _
            unfold opB
            rw [if_neg hK, ev, Int.toNat_natCast]
          have hKb : (K k == 2) = false := by rw [Bool.eq_false_iff, ne_eq, beq_iff_eq]; exact hK
          clear ev hK
          go_wp2_with (go_at_call 28; refine (PutB_n hWo v hv (nb (N k)) hnb (by omega)).mono ?_; rintro e w3 ⟨rfl, D3, len3, cap3, hW3, hO3⟩)
          go_roundw
          case rel =>
            refine ⟨k + 1, len3, cap3, D3, by omega, by go_num, ?_, hCo.trans (hO3.low HP.out hWo.lt hWo.alo)⟩
            rw [hcat.out, List.length_append, putB_length]
            exact hW3
          case measure => simp [intOf]; omega
      · obtain rfl : k = n := by omega
        go_wp2_with fail
        refine (DoneB_c hW).mono ?_
        rintro e w4 ⟨A4, c4, rfl, hown4, hb4⟩
        have hW4 := hW.below hb4
        have hC4 := hC.trans (hb4.mono hC.size)
        have h8 := hW.at8
        have hlen8 : len ≤ 200 := by omega
        have hsz4 := hb4.size
        have hWq : ∀ g, (Value.slice D len cap).ownBlock = some g → g < w4.heap.size := fun g e => Nat.lt_of_lt_of_le (hW.alt g e) hsz4
        clear hW hC hb4 hW0 hC0
        go_wp2_with (go_at_call 39; refine (ReadB_c A4 len c4 _ _ (own_in hown4).row (by omega)).mono ?_; rintro e w5 ⟨q, A5, c5, rfl, hR5, hq5, hb5⟩)
        have hW5 := hW4.below hb5
        have hC5 := hC4.trans (hb5.mono hC4.size)
        have hqw : w2.heap.size ≤ q := Nat.le_trans hC4.size hq5
        have hpq : p ≠ q := by have := hW4.lt; omega
        have hDq : ∀ g, (Value.slice D len cap).ownBlock = some g → g ≠ q := fun g e => by have := hWq g e; omega
        clear hown4 hW4 hC4 hb5 hWq hsz4
        go_loopw [47] (fun i wr => ∃ j : Nat, j ≤ k ∧ i = .int .i64 j ∧ RdB wr q A5 len c5 (pack (catB K V N k)) (catB K V N j).length ∧ Wr wr p D len cap (catB K V N k).length (catB K V N k) ∧ Below w2.heap.size w2 wr) (fun i _ => k - (intOf i).toNat)
        case atStart => exact ⟨0, by omega, rfl, hR5, hW5, hC5⟩
        case round =>
          clear hR5 hW5 hC5
          obtain ⟨j, hj, rfl, hR, hW, hC⟩ := hrel
          by_cases hlt2 : j < k
          · have hjk : (j : Int) < k := by omega
            obtain ⟨b, off, rfl, c0, c1, c2, c3⟩ := (h2.below hC).at_ hlt2
            obtain ⟨v, hv, ev⟩ := num32_of (h2.wf j hlt2).2.1
            rw [ev] at c1
            have e31 := and31b (N j)
            have hnb := nb_le (N j)
            have hsz := hC.size
            have hlj : (catB K V N j).length + nb (N j) ≤ 8 * len := by
              obtain ⟨Z, hZ⟩ := catB_split K V N hlt2
              have h9 := congrArg List.length hZ
              rw [List.length_append, List.length_append, opB_length] at h9
              omega
            have hal : Below wr.heap.size wr (wr.alloc (.cells #[.int .i64 (K j), .int .u32 v, .int .i64 (N j), .slice (BA j) (BL j) (BC j)] 50)) := (Below.refl _ wr).alloc (Nat.le_refl _) _
            have hWo := hW.below hal
            have hRo := hR.below hal
            have hCo := hC.alloc hsz (.cells #[.int .i64 (K j), .int .u32 v, .int .i64 (N j), .slice (BA j) (BL j) (BC j)] 50)
            obtain ⟨vm, hvm⟩ : ∃ vm, vm = v % 2 ^ nb (N j) := ⟨_, rfl⟩
            have hand := and32 v (nb (N j)) hv hnb
            rw [← hvm] at hand
            have hpw : ((2 : Int) ^ nb (N j)) % 4294967296 = 2 ^ nb (N j) := by
              have hp : 2 ^ nb (N j) ≤ 2 ^ 31 := Nat.pow_le_pow_right (by decide) hnb
              have e31 : (2 : Nat) ^ 31 = 2147483648 := rfl
              rw [show ((2 : Int) ^ nb (N j)) = ((2 ^ nb (N j) : Nat) : Int) by simp]
              omega
            have HVM := Lib.hid hvm
            clear hal hvm
            by_cases hK : K j = 2
            · have hKb : (K j != 2) = false := by rw [hK]; rfl
              have hbk := fun d (hd : d < nb (N j)) => back_code (V := V) (N := N) hlt2 hK hd
              rw [ev] at hbk
              have HBK := Lib.hid hbk
              clear hbk ev hK
              go_wp2
              go_quiet (fail)
              go_wp2
              have hWd := hWo.drewN nq
              have hRd := hRo.drewN nq
              have hCd := below_drewN hCo nq
              clear hWo hRo hCo hW hR hC c0 c1 c2 c3
              go_loopw [14] (fun i wr => ∃ e : Nat, e ≤ nb (N j) ∧ i = .int .i64 ((e : Int) - 1) ∧ RdB wr q A5 len c5 (pack (catB K V N k)) ((catB K V N j).length + (nb (N j) - e)) ∧ Wr wr p D len cap (catB K V N k).length (catB K V N k) ∧ Below w2.heap.size w2 wr) (fun i _ => (intOf i + 1).toNat)
              case atStart => exact ⟨nb (N j), Nat.le_refl _, rfl, by rw [Nat.sub_self]; exact hRd, hWd, hCd⟩
              case round =>
                clear hRd hWd hCd
                obtain ⟨e, he, rfl, hR, hW, hC⟩ := hrel
                cases e with
                | zero =>
                  rw [show (((0 : Nat) : Int) - 1) = -1 from rfl]
                  rw [show (catB K V N j).length + (nb (N j) - 0) = (catB K V N (j + 1)).length by rw [catB_len_succ]; omega] at hR
                  go_wp2
                  go_roundw
                  case rel => exact ⟨j + 1, by omega, by go_num, hR, hW, hC⟩
                  case measure => simp [intOf]; omega
                | succ e =>
                  rw [show (((e + 1 : Nat) : Int) - 1) = (e : Int) by omega]
                  have hbit := BitR_ok hR (by omega)
                  have hb1 := HBK.out (nb (N j) - (e + 1)) (by omega)
                  rw [Int.toNat_natCast, show nb (N j) - 1 - (nb (N j) - (e + 1)) = e by omega] at hb1
                  have hb2 := code_bit v (nb (N j)) e hv (by omega)
                  rw [← HVM.out] at hb2
                  obtain ⟨xb, hxb⟩ : ∃ xb : Nat, xb = if v.testBit e then 1 else 0 := ⟨_, rfl⟩
                  rw [← hxb] at hb1 hb2
                  rw [hb1] at hbit
                  have HB := Lib.hid hbit
                  have hnext : Hid ((catB K V N j).length + (nb (N j) - (e + 1)) + 1 = (catB K V N j).length + (nb (N j) - e)) := by unfold Hid; omega
                  have he31 : e < 32 := by omega
                  clear hbit hb1 hxb
                  go_wp2_with (go_at_call 42; refine HB.out.mono ?_; rintro _ w6 ⟨rfl, hR6, hO6⟩)
                  go_roundw
                  case rel => exact ⟨e, by omega, rfl, by rw [← hnext.out]; exact hR6, hW.outOf hO6 hpq hDq, hC.trans (hO6.lowAt hqw hR.lt)⟩
                  case measure => simp [intOf]
            · have hKb : (K j != 2) = true := by rw [bne_iff_ne]; exact hK
              have hbk := back_put (V := V) (N := N) hlt2 hK
              rw [ev, Int.toNat_natCast, ← HVM.out] at hbk
              have HBK := Lib.hid hbk
              clear hbk ev hK
              go_wp2
              go_quiet (fail)
              have hget := GetB_ok (hRo.drewN nq) (nb (N j) : Int) (by rw [heldN_nat _ 32 (by omega)]; exact hlj)
              rw [heldN_nat _ 32 (by omega), HBK.out, ← catB_len_succ] at hget
              have HG := Lib.hid hget
              clear hget
              go_wp2_with (go_at_call 40; refine HG.out.mono ?_; rintro e w6 ⟨rfl, hR6, hO6⟩)
              go_roundw
              case rel => exact ⟨j + 1, by omega, by go_num, hR6, (hWo.drewN nq).outOf hO6 hpq hDq, (below_drewN hCo nq).trans (hO6.lowAt hqw (hRo.drewN nq).lt)⟩
              case measure => simp [intOf]; omega
          · obtain rfl : j = k := by omega
            go_wp2_with (first
              | (go_at_call 45; refine (AtB_c hR).mono ?_; rintro e _ ⟨rfl, rfl⟩)
              | (go_at_call 36; refine (LenB_c hW).mono ?_; rintro e _ ⟨rfl, rfl⟩))
            go_ret
            exact ⟨ret_bool7 (by simp), hbw.trans (hC.mono hbw.size)⟩
  · have hd : Hid (decide ((∀ i, i < n → BL i ≤ 20) ∧ n ≤ 40) = false) := decide_eq_false hf
    clear hf
    go_enter Try.func8, Try.ntmps8
    go_wp2_with (first
      | (go_at_call 26; refine (alive08_c _).mono ?_; rintro e w1 ⟨rfl, hb1⟩)
      | (go_at_call 27; refine (few_c _ _ _ _ _ _ _ _ _ _ _ (h.below hb1)).mono ?_; rw [hd.out]; rintro e w2 ⟨rfl, hb2⟩))
    go_ret
    exact ⟨rfl, hb1.trans (hb2.mono hb1.size)⟩
end Go.Proofs.Ytekpmpgolpghiaa
