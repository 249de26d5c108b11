/-
  LAW 05: the document's own Wrong, search and Decode. No conditions.
-/
import Derived.Test.YtefmbmooocpehaaLaw05b
namespace Go.Proofs.Ytefmbmooocpehaa
open Go.RowKit
set_option maxRecDepth 100000
set_option linter.unusedVariables false

set_option maxHeartbeats 2000000 in
theorem RefWrong_c (A B T : Option Addr) (len ca cb ct : Nat) (l : List F) (th : List Bool) (told : List F) (w : World) (h : Row w A len l) (hb : BRow w B len th) (ht : Row w T len told) (hlen : len ≤ 255) :
    Calls Try.prog 12 #[.slice A len ca, .slice T len ct, .slice B len cb] w fun e w' => ∃ D d cd, e = .returned (.slice D d cd) ∧ Hid (d = (dfF l th told len).length) ∧ w'.ownsRow w.heap.size 3 1 (.slice D d cd) d (pivC (dfF l th told len)) ∧ Below w.heap.size w w' := by
  obtain ⟨i0, hi0, hz0, hz1, hz2⟩ := info_parts info_int
  go_enter Try.func12, Try.ntmps12
  go_wp2
  go_loopw [7, 8] (fun v i wr => ∃ (k : Nat) (D : Option Addr) (d cd : Nat), k ≤ len ∧ i = .int .i64 k ∧ v = .slice D d cd ∧ Hid (d = (dfF l th told k).length) ∧ wr.ownsRow w.heap.size 3 1 (.slice D d cd) d (pivC (dfF l th told k)) ∧ Below w.heap.size w wr) (fun _ i _ => len - (intOf i).toNat)
  case atStart => exact ⟨0, _, 0, 0, by omega, rfl, rfl, rfl, World.ownsRow_made (e := 3) (size := 1) w #[] 0 (Nat.le_refl _) (Nat.zero_le _) rfl, (Below.refl _ _).alloc (Nat.le_refl _) _⟩
  case round =>
    obtain ⟨k, D, d, cd, hk, rfl, rfl, hd, hown, hbel⟩ := hrel
    by_cases hlt : k < len
    · have hkn : (k : Int) < len := by omega
      obtain ⟨b2, o2, e2, l2, h2⟩ := hb.at_ hlt
      replace h2 := (hbel.cell (p := ⟨b2, o2 + k, none⟩) l2).trans h2
      cases hg : gb th k with
      | false =>
        rw [hg] at h2
        have hc : Hid (dfF l th told (k + 1) = dfF l th told k) := if_neg (by rw [hg]; simp)
        subst e2
        clear hg
        go_wp2
        go_quiet (fail)
        go_wp2
        go_roundw
        case rel => exact ⟨k + 1, D, d, cd, by omega, by go_num, rfl, by rw [hc.out]; exact hd, by rw [hc.out]; exact hown, below_drewN hbel _⟩
        case measure => simp [intOf]; omega
      | true =>
        rw [hg] at h2
        obtain ⟨b1, o1, e1, l1, h1⟩ := h.at_ hlt
        obtain ⟨b3, o3, e3, l3, h3⟩ := ht.at_ hlt
        subst e1 e2 e3
        replace h1 := (hbel.cell (p := ⟨b1, o1 + k, none⟩) l1).trans h1
        replace h3 := (hbel.cell (p := ⟨b3, o3 + k, none⟩) l3).trans h3
        have hne := n_bne2 (gt l k) (gt told k)
        by_cases hE : gt l k = gt told k
        · have hc : Hid (dfF l th told (k + 1) = dfF l th told k) := if_neg (fun e => e.2 hE)
          rw [decide_eq_true hE] at hne
          clear hg hE
          go_wp2
          go_quiet (fail)
          go_wp2
          go_roundw
          case rel => exact ⟨k + 1, D, d, cd, by omega, by go_num, rfl, by rw [hc.out]; exact hd, by rw [hc.out]; exact hown, below_drewN hbel _⟩
          case measure => simp [intOf]; omega
        · have hc : Hid (dfF l th told (k + 1) = dfF l th told k ++ [k]) := if_pos ⟨hg, hE⟩
          have hle := dfF_le l th told k
          rw [← hd.out] at hle
          have hd2 : Hid (d + 1 = (dfF l th told (k + 1)).length) := by unfold Hid; rw [hc.out, List.length_append, ← hd.out]; rfl
          rw [decide_eq_false hE] at hne
          clear hg hE
          go_wp2
          go_quiet (fail)
          go_wp2_with (at_builtin; refine wpList_append_own _ rfl (.tmp 31) (.tmp 33) 32 rfl w.heap.size 3 i0 (.int .i64 0) 1 8 Try.underlying32 hi0 hz0 hz1 hz2 rfl (by decide) (.slice D d cd) d (pivC (dfF l th told k)) rfl (World.ownsRow.alloc (w := wr.drewN nq) (by exact hown) _) ⟨wr.heap.size, 0, none⟩ 1 1 [.int .i64 k] rfl rfl (one_cell (wr.drewN nq) _ _) (by intro u hu; simp at hu; subst hu; rfl) (by unfold maxLen; omega) (by omega) (by have := hbel.size; simp; omega) ?_; intro v5 w5 hown5 hgrow5 hnil5)
          rw [← pivC_append, ← hc.out] at hown5
          obtain ⟨D5, c5, rfl, -⟩ := own_shape hown5
          have hb5 : Below w.heap.size w w5 := ((below_drewN hbel nq).alloc hbel.size _).grown hgrow5 (by have := hbel.size; simp; omega) (fun z e => (hown.lt z e).1)
          go_wp2
          go_roundw
          case rel => exact ⟨k + 1, D5, d + 1, c5, by omega, by go_num, rfl, hd2, hown5, hb5⟩
          case measure => simp [intOf]; omega
    · obtain rfl : k = len := by omega
      go_wp2
      go_ret
      exact ⟨D, d, cd, rfl, hd, hown, hbel⟩


/-! ### Places chosen -/
/-- a rising row of places that are there, from a place on -/
def Ris (th : List Bool) (len : Nat) : Nat → List Nat → Prop
  | _, [] => True
  | a, i :: r => a ≤ i ∧ i < len ∧ gb th i = true ∧ Ris th len (i + 1) r
theorem Ris.more {th : List Bool} {len len' : Nat} (h : len ≤ len') : ∀ {K : List Nat} {a : Nat}, Ris th len a K → Ris th len' a K
  | [], _, _ => trivial
  | _ :: _, _, ⟨h1, h2, h3, h4⟩ => ⟨h1, by omega, h3, Ris.more h h4⟩
theorem Ris.later {th : List Bool} {len a a' : Nat} (h : a' ≤ a) : ∀ {K : List Nat}, Ris th len a K → Ris th len a' K
  | [], _ => trivial
  | _ :: _, ⟨h1, h2, h3, h4⟩ => ⟨by omega, h2, h3, h4⟩
theorem Ris.snoc {th : List Bool} {k : Nat} (hg : gb th k = true) : ∀ {K : List Nat} {a : Nat}, Ris th k a K → a ≤ k → Ris th (k + 1) a (K ++ [k])
  | [], _, _, ha => ⟨ha, by omega, hg, trivial⟩
  | _ :: _, _, ⟨h1, h2, h3, h4⟩, _ => ⟨h1, by omega, h3, Ris.snoc hg h4 (by omega)⟩
theorem Ris.take {th : List Bool} {len : Nat} : ∀ {K : List Nat} {a : Nat} (n : Nat), Ris th len a K → Ris th len a (K.take n)
  | [], _, n, _ => by rw [List.take_nil]; trivial
  | _ :: _, _, 0, _ => trivial
  | _ :: _, _, n + 1, ⟨h1, h2, h3, h4⟩ => ⟨h1, h2, h3, Ris.take n h4⟩
/-- the places that are there, of the first k, at which two words don't differ -/
def rtF (l : List F) (th : List Bool) (told : List F) : Nat → List Nat
  | 0 => []
  | k + 1 => if gb th k = true ∧ gt l k = gt told k then rtF l th told k ++ [k] else rtF l th told k
theorem rtF_ris (l : List F) (th : List Bool) (told : List F) (k : Nat) : Ris th k 0 (rtF l th told k) := by
  induction k with
  | zero => trivial
  | succ k ih =>
    unfold rtF
    split
    · rename_i h
      exact Ris.snoc h.1 ih (by omega)
    · exact Ris.more (by omega) ih
theorem rtF_length (l : List F) (th : List Bool) (told : List F) (k : Nat) : (rtF l th told k).length + (dfF l th told k).length = cntT th k := by
  induction k with
  | zero => rfl
  | succ k ih =>
    unfold rtF dfF cntT
    by_cases hg : gb th k = true
    · by_cases hE : gt l k = gt told k
      · rw [if_pos ⟨hg, hE⟩, if_neg (fun e => e.2 hE), if_pos hg, List.length_append]
        simp
        omega
      · rw [if_neg (fun e => hE e.2), if_pos ⟨hg, hE⟩, if_pos hg, List.length_append]
        simp
        omega
    · rw [if_neg (fun e => hg e.1), if_neg (fun e => hg e.1), if_neg hg]
      exact ih
theorem rtF_right (l : List F) (th : List Bool) (told : List F) (k : Nat) : ∀ i ∈ rtF l th told k, gt l i = gt told i := by
  induction k with
  | zero => intro i hi; cases hi
  | succ k ih =>
    intro i hi
    unfold rtF at hi
    split at hi
    · rename_i h
      rw [List.mem_append, List.mem_singleton] at hi
      rcases hi with hi | rfl
      · exact ih i hi
      · exact h.2
    · exact ih i hi
/-- a word that differs at few places is right at n places that rise -/
theorem chosen_right {l told : List F} {th : List Bool} {len n most : Nat} (hm : (dfF l th told len).length ≤ most) (hn : most + n ≤ cntT th len) : ∃ K, Ris th len 0 K ∧ K.length = n ∧ ∀ i ∈ K, gt l i = gt told i := by
  have h1 := rtF_length l th told len
  exact ⟨(rtF l th told len).take n, (rtF_ris l th told len).take n, by rw [List.length_take]; omega, fun i hi => rtF_right l th told len i (List.mem_of_mem_take hi)⟩

/-! ### Law05e -/

/-- a polynomial whose word is near -/
structure Near (l : List F) (th : List Bool) (len n most : Nat) (P : List F) : Prop where
  tt : tr P = P
  le : P.length ≤ n
  few : (dfF l th (vals P 0 len) len).length ≤ most
/-- no near one is right at these places and at others from a place on -/
def NoneOn (l : List F) (th : List Bool) (len n most a : Nat) (J : List Nat) : Prop :=
  ∀ K, Ris th len a K → J.length + K.length = n → ∀ P, Near l th len n most P → (∀ i, i ∈ J ∨ i ∈ K → gt l i = ev P (plI i)) → False
/-- what search tells -/
def SrRes (w' : World) (l : List F) (th : List Bool) (len n most a : Nat) (J : List Nat) (e : Ending) : Prop :=
  (∃ T ct P, e = .returned (.tuple #[.slice T len ct, .bool true]) ∧ RowIn w' T len ct (vals P 0 len) ∧ Near l th len n most P) ∨
  (∃ T tl ct, e = .returned (.tuple #[.slice T tl ct, .bool false]) ∧ NoneOn l th len n most a J)
theorem leaf_none {l : List F} {th : List Bool} {len n most a : Nat} {J : List Nat} {T : List F} (hJ : J.length = n) (hd : J.Nodup) (h256 : ∀ i ∈ J, i < 256) (hT : IsThrough (J.map plI) (J.map (gt l)) T) (hf : ¬ (dfF l th (vals T 0 len) len).length ≤ most) : NoneOn l th len n most a J := by
  intro K _ hK P hP hr
  have hnd : (J.map plI).Nodup := pl_nodup hd h256
  have hPT : IsThrough (J.map plI) (J.map (gt l)) P := ⟨hP.tt, by rw [List.length_map, hJ]; exact hP.le, fun i hi => by
    rw [List.length_map] at hi
    have h1 := hr J[i] (.inl (List.getElem_mem hi))
    rw [gt_lt (by rw [List.length_map]; exact hi), gt_lt (by rw [List.length_map]; exact hi), List.getElem_map, List.getElem_map, h1]⟩
  obtain rfl := IsThrough.unique hnd hT hPT
  exact hf hP.few
theorem NoneOn.step {l : List F} {th : List Bool} {len n most a : Nat} {J : List Nat} (hl : J.length < n) (h1 : gb th a = true → NoneOn l th len n most (a + 1) (J ++ [a])) (h2 : NoneOn l th len n most (a + 1) J) : NoneOn l th len n most a J := by
  intro K hK hlen P hP hr
  match K, hK with
  | [], _ => simp at hlen; omega
  | i :: r, ⟨q1, q2, q3, q4⟩ =>
    by_cases e : i = a
    · subst e
      refine h1 q3 r q4 (by simp at hlen ⊢; omega) P hP fun j hj => hr j ?_
      rcases hj with hj | hj
      · rw [List.mem_append, List.mem_singleton] at hj
        rcases hj with hj | rfl
        · exact .inl hj
        · exact .inr List.mem_cons_self
      · exact .inr (List.mem_cons_of_mem _ hj)
    · exact h2 (i :: r) ⟨by omega, q2, q3, q4⟩ hlen P hP hr
theorem NoneOn.done {l : List F} {th : List Bool} {len n most : Nat} {J : List Nat} (hl : J.length < n) : NoneOn l th len n most len J := by
  intro K hK hlen P hP hr
  match K, hK with
  | [], _ => simp at hlen; omega
  | i :: r, ⟨q1, q2, _, _⟩ => omega
/-- at the top: none means that nothing is near -/
theorem near_found {l : List F} {th : List Bool} {len n most : Nat} (hn : most + n ≤ cntT th len) (h : NoneOn l th len n most 0 []) : ∀ P, ¬ Near l th len n most P := by
  intro P hP
  obtain ⟨K, h1, h2, h3⟩ := chosen_right hP.few hn
  refine h K h1 (by simpa using h2) P hP fun i hi => ?_
  rcases hi with hi | hi
  · cases hi
  · have h4 := h3 i hi
    have hil : i < len := by
      have key : ∀ {K : List Nat} {a : Nat}, Ris th len a K → ∀ j ∈ K, j < len := by
        intro K
        induction K with
        | nil => intro a _ j hj; cases hj
        | cons x r ih =>
          rintro a ⟨_, q2, _, q4⟩ j hj
          rcases List.mem_cons.1 hj with rfl | hj
          · exact q2
          · exact ih q4 j hj
      exact key h1 i hi
    rw [h4, gt_vals, if_pos hil, Nat.zero_add]

/-! ### Law05f -/

theorem Join_two0 {wr : World} {ad : Option Addr} {L c : Nat} {l : List F} {x : F} (hrow : RowIn wr ad L c l) (hL : L ≤ 1000000) :
    Calls Try.prog 27 #[.slice (some ⟨wr.heap.size + 1, 0, none⟩) 2 2] ((wr.alloc (.cells #[.int .u8 x.n] 5)).alloc (.cells #[.slice ad L c, .slice (some ⟨wr.heap.size, 0, none⟩) 1 1] 22)) fun e w' =>
      ∃ g c', e = .returned (.slice (some ⟨g, 0, none⟩) (L + 1) c') ∧ w'.ownsRow wr.heap.size 5 1 (.slice (some ⟨g, 0, none⟩) (L + 1) c') (L + 1) (cs (l ++ [x])) ∧ Below wr.heap.size wr w' := by
  have h0 : (wr.alloc (.cells #[.int .u8 x.n] 5)).cell? ⟨wr.heap.size, 0, none⟩ = some (.int .u8 x.n) := (Blk.new wr 5 #[.int .u8 x.n]).cell 0
  have h1 := (two_in (w := wr.alloc (.cells #[.int .u8 x.n] 5)) (hrow.below ((Below.refl _ wr).alloc (Nat.le_refl _) _)) (x := x) (H := wr.heap.size) h0 (.cells #[.slice ad L c, .slice (some ⟨wr.heap.size, 0, none⟩) 1 1] 22) 22 rfl)
  rw [World.size_alloc] at h1
  have h2 := Join_c h1 (by omega) (fun r hr => by split <;> omega)
  rw [lenTo_two, joinTo_two] at h2
  refine h2.mono ?_
  rintro e w' ⟨g, c', rfl, hown, hb⟩
  have hsz : ((wr.alloc (.cells #[.int .u8 x.n] 5)).alloc (.cells #[.slice ad L c, .slice (some ⟨wr.heap.size, 0, none⟩) 1 1] 22)).heap.size = wr.heap.size + 2 := by simp
  rw [hsz] at hown hb
  exact ⟨g, c', rfl, own_base hown (by omega), (((Below.refl _ wr).alloc (Nat.le_refl _) _).alloc (by simp) _).trans (hb.mono (by omega))⟩
set_option maxHeartbeats 4000000 in
theorem search_c (A B : Option Addr) (len ca cb n most : Nat) (l : List F) (th : List Bool) (hlen : len ≤ 255) (hn : n ≤ 255) (d : Nat) :
    ∀ (w : World) (J : List Nat) (a jl : Nat) (XA YA : Option Addr) (cx cy : Nat), jl + d = n → Hid (J.length = jl ∧ J.Nodup ∧ ∀ i ∈ J, i < a) → a ≤ len → Row w A len l → BRow w B len th → RowIn w XA jl cx (J.map plI) → RowIn w YA jl cy (J.map (gt l)) →
      Calls Try.prog 17 #[.slice A len ca, .slice B len cb, .int .i64 n, .int .i64 a, .slice XA jl cx, .slice YA jl cy, .int .i64 most] w fun e w' => SrRes w' l th len n most a J e ∧ Below w.heap.size w w' := by
  induction d with
  | zero =>
    intro w J a jl XA YA cx cy hjn hJ ha h hb hX hY
    obtain rfl : jl = n := by omega
    have HND : Hid ((J.map plI).Nodup) := pl_nodup hJ.out.2.1 (fun i hi => by have := hJ.out.2.2 i hi; omega)
    have hq : ((jl : Int) == (jl : Int)) = true := by simp
    clear hjn
    go_enter Try.func17, Try.ntmps17
    go_wp2_with fail
    refine (Word_c XA YA jl cx cy len _ _ w hX.row hY.row HND.out (by omega) (by omega)).mono ?_
    rintro e w1 ⟨g, c, T, rfl, hown, hT, hb1⟩
    have HT := Lib.hid hT
    have hW := own_in hown
    have h1 := h.below hb1
    have hb1' := hb.below hb1
    clear hown hT h hb hX hY
    go_wp2_with fail
    refine (RefWrong_c A B (some ⟨g, 0, none⟩) len ca cb c l th (vals T 0 len) w1 h1 hb1' hW.row hlen).mono ?_
    rintro e w2 ⟨D, dd, cd, rfl, hd, hown2, hb2⟩
    have hW2 := hW.below hb2
    have hB2 := hb1.trans (hb2.mono hb1.size)
    clear hown2 hW h1 hb1'
    by_cases hf : dd ≤ most
    · have hfi : (dd : Int) ≤ (most : Int) := by omega
      have HNR : Hid (Near l th len jl most T) := ⟨HT.out.tt, by have := HT.out.le; rw [List.length_map, hJ.out.1] at this; exact this, by rw [← hd.out]; exact hf⟩
      clear hf
      go_wp2
      go_ret2
      exact ⟨.inl ⟨some ⟨g, 0, none⟩, c, T, by first | rfl | simp [hfi], hW2, HNR.out⟩, hB2⟩
    · have hfi : ¬ (dd : Int) ≤ (most : Int) := by omega
      have HNO : Hid (NoneOn l th len jl most a J) := leaf_none hJ.out.1 hJ.out.2.1 (fun i hi => by have := hJ.out.2.2 i hi; omega) HT.out (by rw [← hd.out]; exact hf)
      clear hf
      go_wp2
      go_ret2
      exact ⟨.inr ⟨some ⟨g, 0, none⟩, len, c, by first | rfl | (simp; omega), HNO.out⟩, hB2⟩
  | succ d ih =>
    intro w J a jl XA YA cx cy hjn hJ ha h hb hX hY
    have HIH := Lib.hid ih
    have hq : ((jl : Int) == (n : Int)) = false := by rw [beq_eq_false_iff_ne]; omega
    have hj1 : jl + 1 + d = n := by omega
    have hjl : jl ≤ 255 := by omega
    have HLT : Hid (J.length < n) := by unfold Hid; rw [hJ.out.1]; omega
    clear ih hjn
    go_enter Try.func17, Try.ntmps17
    go_wp2
    go_loopw [17] (fun i wr => ∃ k : Nat, a ≤ k ∧ k ≤ len ∧ i = .int .i64 k ∧ Hid (NoneOn l th len n most k J → NoneOn l th len n most a J) ∧ Below w.heap.size w wr) (fun i _ => len - (intOf i).toNat)
    case atStart => exact ⟨a, Nat.le_refl _, ha, rfl, id, Below.refl _ _⟩
    case round =>
      obtain ⟨k, hak, hk, rfl, hno, hbel⟩ := hrel
      by_cases hlt : k < len
      · have hkn : (k : Int) < len := by omega
        obtain ⟨b2, o2, e2, l2, q2⟩ := hb.at_ hlt
        obtain ⟨b1, o1, e1, l1, q1⟩ := h.at_ hlt
        have p2 := (hbel.cell (p := ⟨b2, o2 + k, none⟩) l2).trans q2
        have hpl := plI_conv k
        have hpw : IntKind.u8.wrap (k : Int) = ((plI k).n : Int) := by rw [← plI_conv]; rfl
        subst e1 e2
        cases hg : gb th k with
        | false =>
          rw [hg] at p2
          have hno2 : Hid (NoneOn l th len n most (k + 1) J → NoneOn l th len n most a J) := fun hh => hno.out (NoneOn.step HLT.out (fun e => by rw [hg] at e; cases e) hh)
          clear hg
          go_wp2
          go_roundw
          case rel => exact ⟨k + 1, by omega, by omega, by go_num, hno2, hbel⟩
          case measure => simp [intOf]; omega
        | true =>
          rw [hg] at p2
          have hXr := hX.below hbel
          have hYr := hY.below hbel
          have hhr := h.below hbel
          have hbr := hb.below hbel
          have HJ2 : Hid ((J ++ [k]).length = jl + 1 ∧ (J ++ [k]).Nodup ∧ ∀ i ∈ J ++ [k], i < k + 1) := by
            refine ⟨by rw [List.length_append, hJ.out.1]; rfl, ?_, fun i hi => ?_⟩
            · rw [List.nodup_append]
              refine ⟨hJ.out.2.1, by simp, fun x hx y hy e => ?_⟩
              rw [List.mem_singleton] at hy
              have := hJ.out.2.2 x hx
              omega
            · rw [List.mem_append, List.mem_singleton] at hi
              rcases hi with hi | rfl
              · have := hJ.out.2.2 i hi; omega
              · omega
          go_wp2_with fail
          refine (Join_two0 (x := plI k) hXr (by omega)).mono ?_
          rintro e w3 ⟨g3, c3, rfl, hown3, hb3⟩
          have p1 := (hb3.cell (p := ⟨b1, o1 + k, none⟩) (by have := hbel.size; show b1 < _; omega)).trans ((hbel.cell (p := ⟨b1, o1 + k, none⟩) l1).trans q1)
          have hYr3 := hYr.below hb3
          have hX3 := own_in hown3
          clear hown3
          go_wp2_with fail
          refine (Join_two0 (x := gt l k) hYr3 (by omega)).mono ?_
          rintro e w4 ⟨g4, c4, rfl, hown4, hb4⟩
          have hY4 := own_in hown4
          have hX4 := hX3.below hb4
          have hh4 := (hhr.below hb3).below hb4
          have hbr4 := (hbr.below hb3).below hb4
          rw [show J.map plI ++ [plI k] = (J ++ [k]).map plI by simp] at hX4
          rw [show J.map (gt l) ++ [gt l k] = (J ++ [k]).map (gt l) by simp] at hY4
          have hB4 := (hbel.trans (hb3.mono hbel.size)).trans (hb4.mono (by have := hbel.size; have := hb3.size; omega))
          clear hown4 hX3 hYr3 hXr hYr hhr hbr p1 hb3 hb4
          go_wp2_with fail
          refine (HIH.out w4 (J ++ [k]) (k + 1) (jl + 1) (some ⟨g3, 0, none⟩) (some ⟨g4, 0, none⟩) c3 c4 hj1 HJ2.out (by omega) hh4 hbr4 hX4 hY4).mono ?_
          rintro e w5 ⟨hres, hb5⟩
          have hB5 := hB4.trans (hb5.mono hB4.size)
          rcases hres with ⟨T, ct, P, rfl, hT, hnear⟩ | ⟨T, tl, ct, rfl, hnone⟩
          · have HNR := Lib.hid hnear
            clear hnear
            go_wp2
            go_ret2
            exact ⟨.inl ⟨T, ct, P, rfl, hT, HNR.out⟩, hB5⟩
          · have hno2 : Hid (NoneOn l th len n most (k + 1) J → NoneOn l th len n most a J) := fun hh => hno.out (NoneOn.step HLT.out (fun _ => hnone) hh)
            clear hnone
            go_wp2
            go_roundw
            case rel => exact ⟨k + 1, by omega, by omega, by go_num, hno2, hB5⟩
            case measure => simp [intOf]; omega
      · obtain rfl : k = len := by omega
        have HN := Lib.hid (hno.out (NoneOn.done HLT.out))
        go_wp2
        go_ret2
        exact ⟨.inr ⟨none, 0, 0, rfl, HN.out⟩, hbel⟩

/-! ### Law05g -/

theorem near_fit {l : List F} {th : List Bool} {len n most : Nat} {P : List F} : Near l th len n most P ↔ Fit (thX th len len) (thY l th len len) (cntT th len) n most P := by
  have h1 := df_cnt l th P len len len (Nat.le_refl _) (Nat.le_refl _)
  rw [fth_all th len len (Nat.le_refl _)] at h1
  exact ⟨fun h => ⟨h.tt, h.le, by rw [← h1]; exact h.few⟩, fun h => ⟨h.tt, h.le, by rw [h1]; exact h.few⟩⟩
/-- what the document's Decode tells of a word, a word and its places being in order -/
def RDecRes (w' : World) (l : List F) (th : List Bool) (len N : Nat) (e : Ending) : Prop :=
  (∃ T ct P, e = .returned (.tuple #[.slice T len ct, .int .i64 ((dfF l th (vals P 0 len) len).length : Nat), .int .i64 0]) ∧ RowIn w' T len ct (vals P 0 len) ∧ N ≤ cntT th len ∧ Fit (thX th len len) (thY l th len len) (cntT th len) N ((cntT th len - N) / 2) P) ∨
  (e = .returned (.tuple #[.slice none 0 0, .int .i64 0, .int .i64 52]) ∧ (N ≤ cntT th len → ∀ P, ¬ Fit (thX th len len) (thY l th len len) (cntT th len) N ((cntT th len - N) / 2) P))
set_option maxHeartbeats 4000000 in
theorem RefDecode_c (A B : Option Addr) (len ca cb N : Nat) (l : List F) (th : List Bool) (w : World) (h : Row w A len l) (hb : BRow w B len th) (hok : DecOk len len (N : Int)) :
    Calls Try.prog 6 #[.slice A len ca, .slice B len cb, .int .i64 (N : Int)] w fun e w' => RDecRes w' l th len N e ∧ Below w.heap.size w w' := by
  obtain ⟨-, hN1, hN2, hlen⟩ := hok
  have hmost := RefMost_c B len cb (N : Int) (by omega) th w hb
  have hmay := May_c A len ca (N : Int) w true (decide_eq_true ⟨hN1, hN2, by omega⟩) (by omega)
  have hN1' : 1 ≤ N := by omega
  have hq : ((len : Int) != (len : Int)) = false := by simp
  have HMAY := Lib.hid hmay
  clear hmay
  by_cases hc : N ≤ cntT th len
  · rw [mostI_some hN1' hc] at hmost
    obtain ⟨most, hmo⟩ : ∃ most, most = (cntT th len - N) / 2 := ⟨_, rfl⟩
    rw [← hmo] at hmost
    have HMO := Lib.hid hmo
    have HMOST := Lib.hid hmost
    have HC := Lib.hid hc
    have hm0 : ¬ (most : Int) < 0 := by omega
    have hsr := search_c A B len ca cb N most l th hlen (by omega) N w [] 0 0 none none 0 0 (by omega) ⟨rfl, List.nodup_nil, fun i hi => by cases hi⟩ (by omega) h hb (RowIn.nil_ w) (RowIn.nil_ w)
    have HSR := Lib.hid hsr
    clear hmo hmost hc hsr
    go_enter Try.func6, Try.ntmps6
    go_wp2_with (first
      | (go_at_call 16; refine HMAY.out.mono ?_; rintro e _ ⟨rfl, rfl⟩)
      | (go_at_call 9; refine HMOST.out.mono ?_; rintro e _ ⟨rfl, rfl⟩))
    refine HSR.out.mono ?_
    rintro e w1 ⟨hres, hb1⟩
    rcases hres with ⟨T, ct, P, rfl, hT, hnear⟩ | ⟨T, tl, ct, rfl, hnone⟩
    · have HF : Hid (Fit (thX th len len) (thY l th len len) (cntT th len) N ((cntT th len - N) / 2) P) := by
        have h1 := near_fit.1 hnear
        rw [HMO.out] at h1
        exact h1
      have h1 := h.below hb1
      have hb1' := hb.below hb1
      clear hnear HSR HMOST HMAY
      go_wp2_with fail
      refine (RefWrong_c A B T len ca cb ct l th (vals P 0 len) w1 h1 hb1' hT.row hlen).mono ?_
      rintro e w2 ⟨D, d, cd, rfl, hd, hown2, hb2⟩
      have hT2 := hT.below hb2
      clear hown2 h1 hb1'
      go_wp2
      go_ret3
      exact ⟨.inl ⟨T, ct, P, by rw [← hd.out]; rfl, hT2, HC.out, HF.out⟩, hb1.trans (hb2.mono hb1.size)⟩
    · have HNO : Hid (∀ P, ¬ Fit (thX th len len) (thY l th len len) (cntT th len) N ((cntT th len - N) / 2) P) := fun P hP => near_found (by have := HMO.out; have := HC.out; omega) hnone P (near_fit.2 (by rw [HMO.out]; exact hP))
      clear hnone HSR HMOST HMAY
      go_wp2
      go_ret3
      exact ⟨.inr ⟨rfl, fun _ => HNO.out⟩, hb1⟩
  · rw [mostI_lost (by omega)] at hmost
    have HMOST := Lib.hid hmost
    have HC := Lib.hid hc
    clear hmost hc
    go_enter Try.func6, Try.ntmps6
    go_wp2_with (first
      | (go_at_call 16; refine HMAY.out.mono ?_; rintro e _ ⟨rfl, rfl⟩)
      | (go_at_call 9; refine HMOST.out.mono ?_; rintro e _ ⟨rfl, rfl⟩))
    go_ret3
    exact ⟨.inr ⟨rfl, fun e => absurd e HC.out⟩, Below.refl _ _⟩
theorem RefDecode_arg (A B : Option Addr) (len ca lenb cb : Nat) (n : Int) (w : World) (hm : len ≤ 9223372036854775807) (hbad : ¬ DecOk len lenb n) :
    Calls Try.prog 6 #[.slice A len ca, .slice B lenb cb, .int .i64 n] w fun e w' => e = .returned (.tuple #[.slice none 0 0, .int .i64 0, .int .i64 1]) ∧ w = w' := by
  by_cases h1 : len = lenb
  · subst h1
    have hmay := May_c A len ca n w false (decide_eq_false fun h => hbad ⟨rfl, h.1, h.2.1, h.2.2⟩) hm
    have HMAY := Lib.hid hmay
    have hq : ((len : Int) != (len : Int)) = false := by simp
    clear hmay hbad
    go_enter Try.func6, Try.ntmps6
    go_wp2_with (go_at_call 16; refine HMAY.out.mono ?_; rintro e _ ⟨rfl, rfl⟩)
    go_ret3
    exact ⟨rfl, rfl⟩
  · have h2 : ((len : Int) != (lenb : Int)) = true := by rw [bne_iff_ne]; omega
    clear hbad h1
    go_enter Try.func6, Try.ntmps6
    go_wp2
    go_ret3
    exact ⟨rfl, rfl⟩
end Go.Proofs.Ytefmbmooocpehaa
