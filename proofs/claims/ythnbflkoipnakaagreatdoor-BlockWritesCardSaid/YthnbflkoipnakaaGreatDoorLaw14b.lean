/-
  LAW 14: BlockSizes. No conditions (but that the tables lie as the program's text lays them).
-/
import Derived.Test.YthnbflkoipnakaaGreatDoorLaw14
import Derived.Test.YthnbflkoipnakaaGreatDoorMtc
namespace Go.Proofs.YthnbflkoipnakaaGreatDoor
open Go.RowKit
set_option maxRecDepth 1000000
set_option linter.unusedVariables false

/-- how many bytes take nine bits -/
def nineF (l : List F) : Nat := (l.filter fun x => 144 ≤ x.n).length
theorem nineF_snoc (l : List F) (x : F) : nineF (l ++ [x]) = nineF l + if 144 ≤ x.n then 1 else 0 := by
  unfold nineF
  rw [List.filter_append, List.length_append]
  by_cases h : 144 ≤ x.n
  · simp [h]
  · simp [h]
theorem nineF_le (l : List F) : nineF l ≤ l.length := List.length_filter_le _ _
theorem fix_lits : allLt 256 (fun x => Nat.beq (symB fixL ((x : Nat) : Int) 0 0).length (if 144 ≤ x then 9 else 8)) = true := by decide +kernel
theorem toksB_lit (l : List F) : (toksB fixL fixD (litT l)).length = 8 * l.length + nineF l := by
  have key : ∀ (l : List F), (toksB fixL fixD (litT l)).length = 8 * l.length + nineF l := by
    intro l
    induction l with
    | nil => rfl
    | cons x r ih =>
      have h1 := Nat.eq_of_beq_eq_true (allLt_at fix_lits x.lt)
      show (tokB fixL fixD ⟨x, 0, 0⟩ ++ toksB fixL fixD (litT r)).length = _
      have e : tokB fixL fixD ⟨x, 0, 0⟩ = symB fixL (x.n : Nat) 0 0 := if_pos rfl
      rw [List.length_append, e, h1, ih, List.length_cons]
      unfold nineF
      by_cases h : 144 ≤ x.n
      · simp [h]; omega
      · simp [h]; omega
  exact key l
theorem fixB_lit (l : List F) (last : Bool) : (fixB (litT l) last).length = 10 + (8 * l.length + nineF l) := by rw [fixB_length, toksB_lit]
/-- a new writer with so many bits, and these -/
theorem begin14_c (w : World) (n : Nat) (hn : n ≤ 15) :
    Calls Tryz.prog 9 #[.int .i64 n] w fun e w' => ∃ q A len cap m B c, e = .returned (.tuple #[.pointer (some ⟨q, 0, none⟩), .slice B n c]) ∧ Wr w' q A len cap m (putB 5 n) ∧ w.heap.size ≤ q ∧ w'.ownsRow w.heap.size 5 1 (.slice B n c) n (cs (bc (putB 5 n))) ∧ Below w.heap.size w w' := by
  have h32 : heldN (n : Int) 32 = n := by unfold heldN; omega
  have HW0 := Lib.hid (Wr.fresh w #[.slice none 0 0, .int .i64 0] rfl)
  have HB0 : Hid (Below w.heap.size w (w.alloc (.cells #[.slice none 0 0, .int .i64 0] 48))) := (Below.refl _ _).alloc (Nat.le_refl _) _
  go_enter Tryz.func9, Tryz.ntmps9
  go_wp2_with fail
  refine (PutB_c HW0.out 5 (by omega) (n : Int) (by omega)).mono ?_
  rintro e w1 ⟨rfl, A, len, cap, hW, hO⟩
  rw [h32, List.nil_append] at hW
  have HW1 := Lib.hid hW
  have HB1 := Lib.hid (HW0.out.keeps hO HB0.out (Nat.le_refl _))
  clear hW hO HW0 HB0
  go_wp2_with fail
  refine (RefPutB_c none 0 0 [] w1 (Row.nil w1 none) (by omega) 5 (by omega) (n : Int)).mono ?_
  rintro e w2 ⟨B, c, rfl, hown, hb⟩
  rw [h32, Nat.zero_add, List.nil_append] at hown
  have hwl := HW1.out.below hb
  have HW2 := Lib.hid hwl
  have HO2 := Lib.hid (own_base hown HB1.out.size)
  have HB2 := Lib.hid (HB1.out.trans (hb.mono HB1.out.size))
  clear hown hb hwl
  rw [h32, Nat.zero_add]
  go_wp2
  go_ret2
  exact ⟨_, A, len, cap, _, B, c, rfl, HW2.out, Nat.le_refl _, HO2.out, HB2.out⟩
theorem bc_lt (x : F) : x.n < 256 := x.lt
/-- the bytes, the tables, and the row of tokens so far -/
structure SzE (w W1 : World) (A : Option Addr) (n cap : Nat) (l : List F) (k : Nat) (A' : Option Addr) (c' : Nat) (W : World) : Prop where
  bel : Below W1.heap.size W1 W
  own : W.ownsRow W1.heap.size 53 3 (.slice A' k c') k (tC (litT (l.take k)))
theorem stb_eq (n a : Nat) (hn : n ≤ 65535) (ha : a ≤ 7) : ∃ s : Nat, stbF n a = (s : Int) ∧ 35 + 8 * n ≤ s ∧ s ≤ 42 + 8 * n ∧ (a + s) % 8 = 0 := by
  unfold stbF
  refine ⟨(a + 10) / 8 * 8 - a + 8 * (4 + n), by omega, by omega, by omega, by omega⟩
theorem litT_wf (l : List F) : ∀ i, i < (litT l).length → TokWf (tg (litT l) i) := by
  intro i hi
  have hm : tg (litT l) i ∈ l.map (fun x => (⟨x, 0, 0⟩ : Tok)) := by
    have e : tg (litT l) i = (litT l)[i] := by unfold tg; rw [List.getD_eq_getElem?_getD, List.getElem?_eq_getElem hi]; rfl
    rw [e]
    exact List.getElem_mem hi
  obtain ⟨x, _, hx⟩ := List.mem_map.1 hm
  rw [← hx]
  exact ⟨rfl, rfl⟩
theorem litT_row {w : World} {base n c : Nat} {A : Option Addr} {l : List F} (h : w.ownsRow base 53 3 (.slice A n c) n (tC (litT l))) : TRow w A n (litT l) := by
  have hl := own_len3 h
  obtain ⟨A2, c2, e, h1, h2⟩ := own3_shape h
  injection e with _ _ e
  subst e
  exact TRow.ofOwn h hl (by omega) (by rw [← hl]; exact litT_wf l)
set_option maxHeartbeats 16000000 in
theorem sizes_main (w : World) (ht : Tabs w) (A : Option Addr) (n cap : Nat) (l : List F) (hl : RowIn w A n cap l) (hn : n ≤ 200) (at_ : Int) :
    Calls Tryz.prog 6 #[.slice A n cap, .int .i64 at_] w fun e w' => e = .returned (.bool true) ∧ Below w.heap.size w w' := by
  obtain ⟨i3, hi3, hy0, hy1, hy2⟩ := info_parts info_tk3
  have hlen := hl.row.len
  have HT0 := Lib.hid ht
  have HL0 := Lib.hid hl
  have HLN := Lib.hid hlen
  obtain ⟨a, ha⟩ : ∃ a : Nat, at_ % 8 = (a : Int) := ⟨(at_ % 8).toNat, by omega⟩
  have ha7 : a ≤ 7 := by omega
  have hand : bits .and .i64 at_ 7 = (a : Int) := by
    have := andLow at_ 3 (by decide)
    rw [show (7 : Int) = ((2 ^ 3 - 1 : Nat) : Int) from rfl, this]
    omega
  have hn2 : ¬ (200 : Int) < (n : Int) := by omega
  clear ht hl hlen ha
  go_enter Tryz.func6, Tryz.ntmps6
  go_wp2_with fail
  refine (alive14_c w HT0.out).mono ?_
  rintro e w1 ⟨rfl, hb1⟩
  have HT1 := Lib.hid (HT0.out.below hb1)
  have HL1 := Lib.hid (HL0.out.below hb1)
  have HB1 := Lib.hid hb1
  have HO1 := Lib.hid (World.ownsRow_lit (base := w1.heap.size) (e := 53) (size := 3) w1 #[] 0 (Nat.le_refl _) (by unfold maxLen; omega) rfl)
  have S1 : Hid (SzE w w1 A n cap l 0 (some ⟨w1.heap.size, 0, none⟩) 0 (w1.alloc (.cells #[] 53))) := ⟨(Below.refl _ _).alloc (Nat.le_refl _) _, HO1.out⟩
  clear HO1 hb1 HT0 HL0
  go_wp2
  go_loopw [5, 6, 22] (fun tv nv kv wr => ∃ (k : Nat) (A' : Option Addr) (c' : Nat), k ≤ n ∧ kv = .int .i64 k ∧ tv = .slice A' k c' ∧ nv = .int .i64 (nineF (l.take k) : Nat) ∧ Hid (SzE w w1 A n cap l k A' c' wr)) (fun _ _ kv _ => n - (intOf kv).toNat)
  case atStart => exact ⟨0, _, 0, by omega, rfl, rfl, rfl, S1⟩
  case round =>
    clear S1
    obtain ⟨k, A', c', hk, rfl, rfl, rfl, hS⟩ := hrel
    by_cases hlt : k < n
    · have hkn : (k : Int) < (n : Int) := by omega
      have hle := nineF_le (l.take k)
      rw [List.length_take] at hle
      obtain ⟨b, off, rfl, hbl, hc⟩ := (HL1.out.below hS.out.bel).row.at_ hlt
      have htk : Hid (l.take (k + 1) = l.take k ++ [gt l k]) := by
        unfold Hid
        rw [List.take_succ_eq_append_getElem (by rw [HLN.out]; exact hlt), gt_lt (by rw [HLN.out]; exact hlt)]
      generalize gt l k = x at *
      obtain ⟨v, hv⟩ : ∃ v, v = nineF (l.take k) := ⟨_, rfl⟩
      rw [← hv] at hle ⊢
      have HV := Lib.hid hv
      clear hv
      have T2 := Lib.hid (tok1_row wr ⟨x, 0, 0⟩ ⟨rfl, rfl⟩ _ rfl)
      have hba := (Below.refl wr.heap.size wr).alloc (Nat.le_refl _) (.cells #[.int .u8 x.n, .int .i64 0, .int .i64 0] 53)
      have B2 := Lib.hid (hS.out.bel.alloc hS.out.bel.size (.cells #[.int .u8 x.n, .int .i64 0, .int .i64 0] 53))
      have O2 := Lib.hid (own_bel hS.out.own hba)
      clear hba
      by_cases h9 : 144 ≤ x.n
      · have h9i : (144 : Int) ≤ (x.n : Int) := by omega
        go_wp2_with (at_builtin; refine wpList_append_toks i3 hi3 hy0 hy1 hy2 rfl _ _ rfl w1.heap.size (.slice A' k c') k _ rfl O2.out (some ⟨wr.heap.size, 0, none⟩) 1 1 [⟨x, 0, 0⟩] rfl T2.out (by omega) B2.out.size ?_; intro v4 w4 hL4; obtain ⟨A4, c4, rfl, hown4, hg4, hnw4⟩ := hL4)
        rw [← litT_snoc, ← htk.out] at hown4
        have S4 : Hid (SzE w w1 (some ⟨b, off, none⟩) n cap l (k + 1) A4 c4 w4) := ⟨B2.out.grown hg4 B2.out.size (fun g hg => (O2.out.lt g hg).1), hown4⟩
        clear hown4 hg4 hnw4
        go_roundw
        case rel => exact ⟨k + 1, A4, c4, by omega, by go_num, rfl, by rw [htk.out, nineF_snoc, if_pos h9, ← HV.out]; go_num, S4⟩
        case measure => simp [intOf]; omega
      · have h9i : ¬ (144 : Int) ≤ (x.n : Int) := by omega
        go_wp2_with (at_builtin; refine wpList_append_toks i3 hi3 hy0 hy1 hy2 rfl _ _ rfl w1.heap.size (.slice A' k c') k _ rfl O2.out (some ⟨wr.heap.size, 0, none⟩) 1 1 [⟨x, 0, 0⟩] rfl T2.out (by omega) B2.out.size ?_; intro v4 w4 hL4; obtain ⟨A4, c4, rfl, hown4, hg4, hnw4⟩ := hL4)
        rw [← litT_snoc, ← htk.out] at hown4
        have S4 : Hid (SzE w w1 (some ⟨b, off, none⟩) n cap l (k + 1) A4 c4 w4) := ⟨B2.out.grown hg4 B2.out.size (fun g hg => (O2.out.lt g hg).1), hown4⟩
        clear hown4 hg4 hnw4
        go_roundw
        case rel => exact ⟨k + 1, A4, c4, by omega, by go_num, rfl, by rw [htk.out, nineF_snoc, if_neg h9, ← HV.out]; rfl, S4⟩
        case measure => simp [intOf]; omega
    · have hkn : ¬ (k : Int) < (n : Int) := by omega
      obtain rfl : k = n := by omega
      have hS1 := hS.out.own
      have htk : l.take k = l := by rw [← HLN.out, List.take_length]
      rw [htk] at hS1 ⊢
      have TR := Lib.hid (litT_row hS1)
      have HB2 := Lib.hid hS.out.bel
      have HS1 := Lib.hid hS1
      obtain ⟨v, hv⟩ : ∃ v, v = nineF l := ⟨_, rfl⟩
      have hvl := nineF_le l
      have HFL := Lib.hid (fixB_lit l false)
      have HFT := Lib.hid (fixB_lit l true)
      rw [HLN.out, ← hv] at HFL HFT
      rw [HLN.out, ← hv] at hvl
      rw [← hv]
      have hok : okF (litT l) = k := by rw [okF_lit, litT_length, HLN.out]
      have HOK := Lib.hid hok
      clear hS hS1 htk hv hok
      have HTr := Lib.hid (HT1.out.below HB2.out)
      have HLr := Lib.hid (HL1.out.below HB2.out)
      go_wp2_with fail
      refine (begin14_c wr a (by omega)).mono ?_
      rintro e w2 ⟨q, A2, len2, cap2, m2, X2, cx2, rfl, hW2, hq2, -, hb2⟩
      have HW2 := Lib.hid hW2
      have B2 := Lib.hid hb2
      have HQ2 : Hid (q < w2.heap.size) := hW2.lt
      clear hW2 hb2
      go_wp2_with fail
      refine (begin14_c w2 a (by omega)).mono ?_
      rintro e w3 ⟨r, A3, len3, cap3, m3, X3, cx3, rfl, hW3, hr3, -, hb3⟩
      have HW23 := Lib.hid (HW2.out.below hb3)
      have HA2 : Hid (∀ g, (Value.slice A2 len2 cap2).ownBlock = some g → g < w2.heap.size) := fun g hg => (HW2.out.own.lt g hg).2
      have HW3 := Lib.hid hW3
      have B3 := Lib.hid (B2.out.trans (hb3.mono B2.out.size))
      have B13 := Lib.hid (HB2.out.trans (B3.out.mono HB2.out.size))
      clear hW3 hb3 HW2
      have hm2 : m2 = a := by have := HW23.out.hn.out; rw [putB_length] at this; exact this
      have hm3 : m3 = a := by have := HW3.out.hn.out; rw [putB_length] at this; exact this
      subst hm2
      subst hm3
      go_wp2_with fail
      refine (FixedB_c HW23.out B3.out hq2 HTr.out A' k c' (litT l) TR.out (by omega) HOK.out true (by omega)).mono ?_
      rintro e w4 ⟨rfl, A4, len4, cap4, m4, hW4, hO4⟩
      have hq : q < r := by have := HQ2.out; omega
      have HW34 := Lib.hid (HW3.out.woutO hO4 (by omega) (fun e => by have := HA2.out r e; omega) (fun g hg => ⟨by have := (HW3.out.own.lt g hg).1; omega, fun e => by have := HA2.out g e; have := (HW3.out.own.lt g hg).1; omega⟩))
      have B4 := Lib.hid (HW23.out.keeps hO4 B3.out hq2)
      have HW4 := Lib.hid hW4
      have H4lo : Hid (∀ g, (Value.slice A4 len4 cap4).ownBlock = some g → g ≠ r ∧ (Value.slice A3 len3 cap3).ownBlock ≠ some g) := fun g hg => by
        have h3 := HW3.out.lt
        rcases hO4.nw with h | h
        · rw [h] at hg
          have h5 := HA2.out g hg
          exact ⟨by omega, fun e => by have := (HW3.out.own.lt g e).1; omega⟩
        · have h5 := h g hg
          exact ⟨by omega, fun e => by have := (HW3.out.own.lt g e).2; omega⟩
      have hm4 : m4 = m3 + (10 + (8 * k + v)) := by have := hW4.hn.out; rw [List.length_append, putB_length, HFT.out] at this; exact this
      clear hW4 hO4 HW23 HW3 HA2
      have HM4 := Lib.hid hm4
      clear hm4
      go_wp2_with fail
      refine (Stored_c HW34.out A k cap l HLr.out B4.out (by omega) (by omega) true (by omega)).mono ?_
      rintro e w5 ⟨rfl, A5, len5, cap5, m5, hW5, hO5⟩
      have HW45 := Lib.hid (HW4.out.woutO hO5 (by omega) (fun e => by have := (HW34.out.own.lt q e).1; omega) H4lo.out)
      have B5 := Lib.hid (HW34.out.keeps hO5 B4.out (by omega))
      have hm5 := hW5.hn.out
      have hsl := stoB_length (putB 5 m3) l true (by rw [HLN.out]; omega)
      rw [putB_length, HLN.out, Nat.mod_eq_of_lt (by omega : m3 < 8)] at hsl
      obtain ⟨s, hs0, hs1, hs2, hs3⟩ := stb_eq k m3 (by omega) ha7
      have HSB := Lib.hid (fun W => StoredBits_c (k : Int) (m3 : Int) W)
      rw [hs0] at hsl HSB
      rw [← hm5] at hsl
      have HW5 := Lib.hid hW5
      have HSL := Lib.hid hsl
      have HS3 := Lib.hid hs3
      clear hW5 hO5 HW4 HW34 H4lo hm5 hsl hs0 hs3 B3
      go_wp2_with fail
      refine (HSB.out w5).mono ?_
      rintro e _ ⟨rfl, rfl⟩
      have hF := fun W (h : Below wr.heap.size wr W) => FixedBits_c W (HTr.out.below h) A' k c' (litT l) (TR.out.below h) (by omega) HOK.out
      rw [HFL.out] at hF
      have HF := Lib.hid hF
      clear hF
      go_wp2_with fail
      refine (HF.out w5 B5.out).mono ?_
      rintro e w6 ⟨rfl, hb6⟩
      have B6 := Lib.hid (B5.out.trans (hb6.mono B5.out.size))
      have HW46 := Lib.hid (HW45.out.below hb6)
      have HW56 := Lib.hid (HW5.out.below hb6)
      clear hb6 B5 HW45 HW5
      have p1 : ((10 + (8 * k + v) : Nat) : Int) = 10 + 8 * (k : Int) + (v : Int) := by omega
      have p2 : (m4 : Int) - (m3 : Int) = 10 + 8 * (k : Int) + (v : Int) := by have := HM4.out; omega
      have p3 : (m5 : Int) - (m3 : Int) = (s : Int) := by have := HSL.out; omega
      have p4 : 35 + 8 * (k : Int) ≤ (s : Int) := by omega
      have p5 : (s : Int) ≤ 42 + 8 * (k : Int) := by omega
      have p6 : ((m3 : Int) + (s : Int)) % 8 = 0 := by have := HS3.out; omega
      have hm4b : m4 ≤ 100000 := by have := HM4.out; omega
      have hm5b : m5 ≤ 100000 := by have := HSL.out; omega
      rw [p1]
      go_wp2_with fail
      refine (LenB_c HW46.out).mono ?_
      rintro e _ ⟨rfl, rfl⟩
      go_wp2_with fail
      refine (HF.out w6 B6.out).mono ?_
      rintro e w7 ⟨rfl, hb7⟩
      have B7 := Lib.hid (B6.out.trans (hb7.mono B6.out.size))
      have HW57 := Lib.hid (HW56.out.below hb7)
      clear hb7 B6 HW46 HW56
      rw [p1]
      go_wp2_with fail
      refine (LenB_c HW57.out).mono ?_
      rintro e _ ⟨rfl, rfl⟩
      go_wp2
      go_ret
      exact ⟨rfl, HB1.out.trans ((HB2.out.trans (B7.out.mono HB2.out.size)).mono HB1.out.size)⟩
theorem walk_BlockSizes (w : World) (ht : Tabs w) (A : Option Addr) (n cap : Nat) (l : List F) (hl : RowIn w A n cap l) (at_ : Int) (hat : (Lit.int .i64 at_).wf = true) :
    Calls Tryz.prog 6 #[.slice A n cap, .int .i64 at_] w fun e w' => e = .returned (.bool true) ∧ Below w.heap.size w w' := by
  by_cases hn : n ≤ 200
  · exact sizes_main w ht A n cap l hl hn at_
  · have hn2 : (200 : Int) < (n : Int) := by omega
    have HT := Lib.hid ht
    clear ht hl
    go_enter Tryz.func6, Tryz.ntmps6
    go_wp2_with fail
    refine (alive14_c w HT.out).mono ?_
    rintro e w1 ⟨rfl, hb⟩
    go_wp2
    go_ret
    exact ⟨rfl, hb⟩
end Go.Proofs.YthnbflkoipnakaaGreatDoor
