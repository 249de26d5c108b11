/-
  SEALS: the program's Parse. Rows of at most 100000 bytes.
-/
import Derived.Test.YtbgdoemealddpaaDoorSll
namespace Go.Proofs.YtbgdoemealddpaaDoor
open Go.RowKit
set_option maxRecDepth 100000
set_option linter.unusedVariables false

/-- how many sums a row has, how many bytes stand ahead of the column -/
def qL (l : List F) : Nat := blkN (atL l 12 4) (atL l 16 4)
def hL (l : List F) : Nat := hdN (atL l 6 2) (atL l 8 2) (qL l)
/-- the error of a seal's bytes -/
def prE (l : List F) : Int := if ¬ frE l = 0 then frE l else if l.length < hL l then 20 else if ¬ atL l (hL l - 4) 4 = (sum32 (l.take (hL l - 4))).n then 42 else if l.length < hL l + (8 + atL l 12 4) then 20 else if hL l + (8 + atL l 12 4) < l.length then 22 else 0
def pZ (l : List F) (x : Nat) : Nat := if prE l = 0 then x else 0
def pN (l : List F) : Nat := pZ l (atL l 6 2)
def pK (l : List F) : Nat := pZ l (atL l 8 2)
def pS (l : List F) : Nat := pZ l (atL l 12 4)
def pB (l : List F) : Nat := pZ l (atL l 16 4)
def pI (l : List F) : Nat := pZ l (atL l 10 2)
def pM (l : List F) : Nat := pN l + pK l
def pC (l : List F) : List F := if prE l = 0 then l.drop (hL l) else []
/-- what a seal's bytes tell -/
def PrA (w w' : World) (l : List F) (e : Ending) : Prop := ∃ A c RA RC C cc, e = .returned (.tuple #[.agg #[.int .i64 (pN l : Nat), .int .i64 (pK l : Nat), .int .i64 (pS l : Nat), .int .i64 (pB l : Nat), .int .i64 (pI l : Nat), .slice A (pM l) c], .slice C (pC l).length cc, .int .i64 (prE l)]) ∧
  GIn w' A (pM l) c RA (fun _ => qL l) RC (tdR (l.drop 20) (qL l)) ∧ RowIn w' C (pC l).length cc (pC l) ∧ Below w.heap.size w w'
theorem PrA.err {w w' : World} {l : List F} {er : Int} (h : prE l = er) (h0 : ¬ er = 0) (hb : Below w.heap.size w w') : PrA w w' l (.returned (.tuple #[.agg #[.int .i64 0, .int .i64 0, .int .i64 0, .int .i64 0, .int .i64 0, .slice none 0 0], .slice none 0 0, .int .i64 er])) := by
  have hz : ∀ x, pZ l x = 0 := fun x => by unfold pZ; rw [h, if_neg h0]
  have hc : pC l = [] := by unfold pC; rw [h, if_neg h0]
  have hm : pM l = 0 := by unfold pM pN pK; rw [hz, hz]
  refine ⟨none, 0, fun _ => none, fun _ => 0, none, 0, ?_, ?_, ?_, hb⟩
  · rw [hc, hm, h]
    unfold pN pK pS pB pI
    rw [hz, hz, hz, hz, hz]
    rfl
  · rw [hm]; exact GIn.nil _
  · rw [hc]; exact RowIn.nil_ _
theorem PrA.ok {w w' : World} {l : List F} (h : prE l = 0) {A : Option Addr} {c : Nat} {RA : Nat → Option Addr} {RC : Nat → Nat} {C : Option Addr} {L cc : Nat} (hG : GIn w' A (atL l 6 2 + atL l 8 2) c RA (fun _ => qL l) RC (tdR (l.drop 20) (qL l))) (hC : RowIn w' C L cc (l.drop (hL l))) (hb : Below w.heap.size w w') :
    PrA w w' l (.returned (.tuple #[.agg #[.int .i64 (atL l 6 2 : Nat), .int .i64 (atL l 8 2 : Nat), .int .i64 (atL l 12 4 : Nat), .int .i64 (atL l 16 4 : Nat), .int .i64 (atL l 10 2 : Nat), .slice A (atL l 6 2 + atL l 8 2) c], .slice C L cc, .int .i64 0])) := by
  have hz : ∀ x, pZ l x = x := fun x => by unfold pZ; rw [h, if_pos rfl]
  have hc : pC l = l.drop (hL l) := by unfold pC; rw [h, if_pos rfl]
  have hm : pM l = atL l 6 2 + atL l 8 2 := by unfold pM pN pK; rw [hz, hz]
  refine ⟨A, c, RA, RC, C, cc, ?_, ?_, ?_, hb⟩
  · rw [hc, hm, h, ← hC.row.len]
    unfold pN pK pS pB pI
    rw [hz, hz, hz, hz, hz]
  · rw [hm]; exact hG
  · rw [hc, hC.row.len]; exact hC
theorem GIn.congr {w : World} {A : Option Addr} {n cap : Nat} {RA : Nat → Option Addr} {RL RC : Nat → Nat} {R R' : Nat → List G} (h : GIn w A n cap RA RL RC R) (e : ∀ r, r < n → R r = R' r) : GIn w A n cap RA RL RC R' :=
  ⟨h.le, h.max, h.top, fun r hr => by rw [← e r hr]; exact h.row r hr, h.cp⟩
theorem frE_zero {l : List F} (h : frE l = 0) : 20 ≤ l.length ∧ atL l 4 2 = 1 ∧ rix (atL l 6 2 : Nat) (atL l 8 2 : Nat) (atL l 12 4 : Nat) (atL l 16 4 : Nat) (atL l 10 2 : Nat) = true ∧ l.take 4 = sgn := by
  unfold frE at h
  split at h
  · cases h
  · rename_i h1
    split at h
    · cases h
    · rename_i h2
      split at h
      · cases h
      · rename_i h3
        have h4 := Decidable.not_not.1 h3
        refine ⟨by omega, h4.1, h4.2, Decidable.not_not.1 fun e => h1 (.inr e)⟩
theorem rix_parts {N K S B I : Int} (h : rix N K S B I = true) : right23 N K S B = true ∧ 0 ≤ I ∧ I < K := by
  unfold rix at h
  rw [Bool.and_eq_true_iff, Bool.and_eq_true_iff] at h
  exact ⟨h.1, of_decide_eq_true h.2.1, of_decide_eq_true h.2.2⟩
theorem tdR_take {l : List F} {N q r : Nat} (h : 4 * ((r + 1) * q) ≤ N) : tdR (l.take N) q r = tdR l q r := by
  unfold tdR
  refine List.map_congr_left fun j hj => ?_
  have hj' : j < q := by simpa using hj
  rw [atL_take]
  rw [Nat.add_mul, Nat.one_mul] at h
  omega
theorem step_store_at {P : Program} {w : World} {ops : Array Oper} {o : Oper} {a : Act} {K : Act → World → Prop} {Q : Exit → Act → World → Prop} {E : Prop} (hgd : o.guard = none) (p x : Operand) (T : TypeId) (ho : o.op = Op.store T p x) (ad : Addr) (v : Value) (w' : World)
    (hp : a.eval p = .pointer (some ad)) (hx : a.eval x = v) (hrun : Sem.run P (storeVar T ad v) w = .ok () w') (hK : K (a.put o.dst undef) w') : if Region.wanted o (yielded ops a.tmps) = true then Oper.wp P o a w K Q else E := by
  have hw : Region.wanted o (yielded ops a.tmps) = true := by simp [Region.wanted, hgd]
  rw [if_pos hw]
  have hr : (Instr.storeAt T (.pointer (some ad)) v).run P w = .ok () w' := by
    simp only [Instr.storeAt, Instr.sureAddr, Sem.run_bind, Sem.run_pure, Result.andThen]
    exact hrun
  unfold Oper.wp
  simp [execOp, ho, hp, hx, hr, Result.andThen]
  simpa [Oper.upon] using hK
theorem heap_setRowS (w : World) {g k : Nat} (D : Array Value) (h : k ≠ g) : (w.setRow g D).heap[k]? = w.heap[k]? := by
  simp [World.setRow, Array.getElem?_modify]
  intro e
  omega
theorem GIn.keepS {w w' : World} {lo : Nat} {A : Option Addr} {n cap : Nat} {RA : Nat → Option Addr} {RL RC : Nat → Nat} {R : Nat → List G} (h : GIn w A n cap RA RL RC R) (hs : w.heap.size ≤ w'.heap.size) (hk : ∀ b, lo ≤ b → b < w.heap.size → w'.heap[b]? = w.heap[b]?) (hA : ∀ b o, A = some ⟨b, o, none⟩ → lo ≤ b)
    (hR : ∀ r, r < n → 0 < RL r → ∀ x, RA r = some x → lo ≤ x.block) : GIn w' A n cap RA RL RC R :=
  ⟨h.le, h.max, fun hn => by
    obtain ⟨b, off, e, hl, hc⟩ := h.top hn
    exact ⟨b, off, e, by omega, fun r hr => (World.cell?_of_block (a := ⟨b, off + r, none⟩) (hk b (hA b off e) hl)).trans (hc r hr)⟩, fun r hr => (h.row r hr).keepS hs (fun b o hn e hl => hk b (hR r hr hn _ e) hl), h.cp⟩
theorem own_setRowS {w : World} {base n m : Nat} {e : TypeId} {v : Value} {xs : List Value} (h : w.ownsRow base e 1 v n xs) (hm : m < base) (D : Array Value) : (w.setRow m D).ownsRow base e 1 v n xs :=
  h.kept (row := some m) ⟨rfl, rfl, rfl, by simp, fun k _ hk => heap_setRowS w D (fun e => hk (by rw [e]))⟩ (by
    cases hv : v.ownBlock with
    | none => exact .inl rfl
    | some g => exact .inr (fun e => by injection e with e; have := (h.lt g hv).1; omega))
set_option maxHeartbeats 8000000 in
theorem Parse_c {w : World} (ht : Tab w) {A : Option Addr} {n c : Nat} {l : List F} (h : RowIn w A n c l) (hn : n ≤ 100000) :
    Calls Tryd.prog 19 #[.slice A n c] w fun e w' => PrA w w' l e := by
  have hlen := h.row.len
  have hba := (Below.refl w.heap.size w).alloc (Nat.le_refl _) (.cells #[.int .i64 0, .int .i64 0, .int .i64 0, .int .i64 0, .int .i64 0, .slice none 0 0] 26)
  have HK0 := Lib.hid (Blk.new w 26 #[.int .i64 0, .int .i64 0, .int .i64 0, .int .i64 0, .int .i64 0, .slice none 0 0])
  have HB0 := Lib.hid hba
  have H0 := Lib.hid (h.below hba)
  have HF := Lib.hid (front_c (h.below hba) hn)
  have HT := Lib.hid ht
  have HLE := Lib.hid hlen
  have hcap := h.le
  clear hba hlen h ht
  by_cases hf : frE l = 0
  case neg =>
    have hv : frV l = .agg #[.int .i64 0, .int .i64 0, .int .i64 0, .int .i64 0, .int .i64 0, .slice none 0 0] := by unfold frV; rw [if_neg hf]
    have hp : prE l = frE l := by unfold prE; rw [if_pos hf]
    have HP : Hid (∀ W', Below w.heap.size w W' → PrA w W' l (.returned (.tuple #[.agg #[.int .i64 0, .int .i64 0, .int .i64 0, .int .i64 0, .int .i64 0, .slice none 0 0], .slice none 0 0, .int .i64 (frE l)]))) := fun W' hb => PrA.err hp hf hb
    rw [hv] at HF
    have hne : (frE l != 0) = true := by rw [bne_iff_ne]; exact hf
    generalize frE l = er at *
    clear hv hp hf
    go_enter Tryd.func19, Tryd.ntmps19
    go_wp2_with fail
    refine HF.out.mono ?_
    rintro e W1 ⟨rfl, hb1⟩
    have HK1 := Lib.hid (HK0.out.below HK0.out.lt hb1)
    have HB1 := Lib.hid (HB0.out.trans (hb1.mono HB0.out.size))
    have hba := (Below.refl W1.heap.size W1).alloc (Nat.le_refl _) (.cells #[.int .i64 0, .int .i64 0, .int .i64 0, .int .i64 0, .int .i64 0, .slice none 0 0] 26)
    have HK2 := Lib.hid (HK1.out.below HK1.out.lt hba)
    have HB2 := Lib.hid (HB1.out.trans (hba.mono HB1.out.size))
    have t2 := st_sl HK2.out rfl #[.int .i64 0, .int .i64 0, .int .i64 0, .int .i64 0, .int .i64 0, .slice none 0 0] rfl (by simp [Value.oneCell'])
    have t3 := ld_sl (HK2.out.setRow #[.int .i64 0, .int .i64 0, .int .i64 0, .int .i64 0, .int .i64 0, .slice none 0 0]) rfl
    have HB9 := Lib.hid (below_setRowS HB2.out (Nat.le_refl _) #[.int .i64 0, .int .i64 0, .int .i64 0, .int .i64 0, .int .i64 0, .slice none 0 0])
    clear hb1 hba
    go_wp2_with (with_reducible refine wpList_store_var _ _ _ (by with_unfolding_all rfl) (by with_unfolding_all rfl) t2 ?_)
    refine bodyPost_ret (v := .tuple #[.agg #[.int .i64 0, .int .i64 0, .int .i64 0, .int .i64 0, .int .i64 0, .slice none 0 0], .slice none 0 0, .int .i64 er]) ?_ rfl (HP.out _ HB9.out)
    rw [results_cell_tt rfl]
    simp [asAddr, Result.andThen, t3]
  case pos =>
    obtain ⟨h20, hv1, hrx, hsg⟩ := frE_zero hf
    obtain ⟨hr, hi0, hik⟩ := rix_parts hrx
    rw [HLE.out] at h20
    have l2 := atL_lt2 l 6
    have l3 := atL_lt2 l 8
    have l4 := atL_lt2 l 10
    have l5 := atL_lt4 l 12
    have l6 := atL_lt4 l 16
    have hw4 : Wf4 (atL l 6 2 : Nat) (atL l 8 2 : Nat) (atL l 12 4 : Nat) (atL l 16 4 : Nat) := ⟨wfI _ (by omega), wfI _ (by omega), wfI _ (by omega), wfI _ (by omega)⟩
    have hv : frV l = .agg #[.int .i64 (atL l 6 2 : Nat), .int .i64 (atL l 8 2 : Nat), .int .i64 (atL l 12 4 : Nat), .int .i64 (atL l 16 4 : Nat), .int .i64 (atL l 10 2 : Nat), .slice none 0 0] := by unfold frV; rw [if_pos hf]
    have hp : prE l = if n < hL l then 20 else if ¬ atL l (hL l - 4) 4 = (sum32 (l.take (hL l - 4))).n then 42 else if n < hL l + (8 + atL l 12 4) then 20 else if hL l + (8 + atL l 12 4) < n then 22 else 0 := by
      unfold prE
      rw [if_neg (fun e => e hf), HLE.out]
    have hOK := fun (W' : World) (A' : Option Addr) (c' : Nat) (RA : Nat → Option Addr) (RC : Nat → Nat) (C : Option Addr) (L cc : Nat) h0 hG hC hb => PrA.ok (w := w) (w' := W') (l := l) h0 (A := A') (c := c') (RA := RA) (RC := RC) (C := C) (L := L) (cc := cc) hG hC hb
    have HHd := Lib.hid (Head_yes hw4 hr)
    have hLg := Long_c hw4
    unfold long23 at hLg
    rw [if_pos hr] at hLg
    have HLg := Lib.hid hLg
    have HTold := Lib.hid (fun W (X : Option Addr) (m' c' : Nat) (l' : List F) (hR : Row W X m' l') h1 h2 => told_c hw4 hr (w := W) (A := X) (m := m') (c := c') (l := l') hR h1 h2)
    have hx := of_decide_eq_true hr
    have hhL : hL l = hdN (atL l 6 2) (atL l 8 2) (blkN (atL l 12 4) (atL l 16 4)) := rfl
    have hqL : qL l = blkN (atL l 12 4) (atL l 16 4) := rfl
    rw [hv, hf] at HF
    rw [← hhL] at HHd
    rw [← hqL] at HTold hhL
    have hqp : 1 ≤ qL l := by rw [hqL]; exact blkN_pos (by omega)
    have hnk : atL l 6 2 + atL l 8 2 ≤ 255 := by omega
    have hn1 : 1 ≤ atL l 6 2 := by omega
    have hHs := smN_eq (qL l) (atL l 6 2) (atL l 8 2)
    rw [← hhL] at hHs
    have hqm : 1 * (1 * 4) ≤ (atL l 6 2 + atL l 8 2) * (qL l * 4) := Nat.mul_le_mul (by omega) (by omega)
    change 1 * (1 * 4) ≤ smN (qL l) (atL l 6 2 + atL l 8 2) at hqm
    clear hv hf hr hrx hi0 hik hsg hx hLg hw4 hhL hqL hv1
    generalize hQ : qL l = Q at *
    generalize hH : hL l = H at *
    have HQ := Lib.hid hQ
    have HH := Lib.hid hH
    have HHS := Lib.hid hHs
    have hH28 : 28 ≤ H := by omega
    have HP := Lib.hid hp
    have HOK := Lib.hid hOK
    generalize atL l 6 2 = v2 at *
    generalize atL l 8 2 = v3 at *
    generalize atL l 10 2 = v4 at *
    generalize atL l 12 4 = v5 at *
    generalize atL l 16 4 = v6 at *
    clear hQ hH hHs hp hOK hqm
    go_enter Tryd.func19, Tryd.ntmps19
    go_wp2_with fail
    refine HF.out.mono ?_
    rintro e W1 ⟨rfl, hb1⟩
    have HK1 := Lib.hid (HK0.out.below HK0.out.lt hb1)
    have HB1 := Lib.hid (HB0.out.trans (hb1.mono HB0.out.size))
    have H1 := Lib.hid (H0.out.below hb1)
    have hba := (Below.refl W1.heap.size W1).alloc (Nat.le_refl _) (.cells #[.int .i64 (v2 : Nat), .int .i64 (v3 : Nat), .int .i64 (v5 : Nat), .int .i64 (v6 : Nat), .int .i64 (v4 : Nat), .slice none 0 0] 26)
    have HX2 := Lib.hid (Blk.new W1 26 #[.int .i64 (v2 : Nat), .int .i64 (v3 : Nat), .int .i64 (v5 : Nat), .int .i64 (v6 : Nat), .int .i64 (v4 : Nat), .slice none 0 0])
    have HK2 := Lib.hid (HK1.out.below HK1.out.lt hba)
    have HB2 := Lib.hid (HB1.out.trans (hba.mono HB1.out.size))
    have H2 := Lib.hid (H1.out.below hba)
    have z0 := (HX2.out.cell 0).trans (show _ = some (Value.int .i64 (v2 : Nat)) from rfl)
    have z1 := (HX2.out.cell 1).trans (show _ = some (Value.int .i64 (v3 : Nat)) from rfl)
    have z2 := (HX2.out.cell 2).trans (show _ = some (Value.int .i64 (v5 : Nat)) from rfl)
    have z3 := (HX2.out.cell 3).trans (show _ = some (Value.int .i64 (v6 : Nat)) from rfl)
    have hlt01 := HK1.out.lt
    clear hb1 hba
    go_wp2_with fail
    refine (HHd.out _).mono ?_
    rintro e W3 ⟨rfl, hb3⟩
    have HX3 := Lib.hid (HX2.out.below HX2.out.lt hb3)
    have HK3 := Lib.hid (HK2.out.below HK2.out.lt hb3)
    have HB3 := Lib.hid (HB2.out.trans (hb3.mono HB2.out.size))
    have H3 := Lib.hid (H2.out.below hb3)
    clear hb3 z0 z1 z2 z3 HX2 HK2 HB2 HK1 HB1 HK0 HB0 H2 H1 HHd HF
    obtain ⟨g5, hg5⟩ : ∃ g5, g5 = W1.heap.size := ⟨_, rfl⟩
    rw [← hg5] at HX3 hlt01 ⊢
    clear hg5
    by_cases hs : n < H
    · have hsi : (n : Int) < (H : Int) := by omega
      have HP9 : Hid (∀ W', Below w.heap.size w W' → PrA w W' l (.returned (.tuple #[.agg #[.int .i64 0, .int .i64 0, .int .i64 0, .int .i64 0, .int .i64 0, .slice none 0 0], .slice none 0 0, .int .i64 20]))) := fun W' hb => PrA.err (by rw [HP.out, if_pos hs]) (by decide) hb
      have t2 := st_sl HK3.out rfl #[.int .i64 0, .int .i64 0, .int .i64 0, .int .i64 0, .int .i64 0, .slice none 0 0] rfl (by simp [Value.oneCell'])
      have t3 := ld_sl (HK3.out.setRow #[.int .i64 0, .int .i64 0, .int .i64 0, .int .i64 0, .int .i64 0, .slice none 0 0]) rfl
      have HB9 := Lib.hid (below_setRowS HB3.out (Nat.le_refl _) #[.int .i64 0, .int .i64 0, .int .i64 0, .int .i64 0, .int .i64 0, .slice none 0 0])
      go_wp2_with (with_reducible refine wpList_store_var _ _ _ (by with_unfolding_all rfl) (by with_unfolding_all rfl) t2 ?_)
      refine bodyPost_ret (v := .tuple #[.agg #[.int .i64 0, .int .i64 0, .int .i64 0, .int .i64 0, .int .i64 0, .slice none 0 0], .slice none 0 0, .int .i64 20]) ?_ rfl (HP9.out _ HB9.out)
      rw [results_cell_tt rfl]
      simp [asAddr, Result.andThen, t3]
    · have hsn : ¬ (n : Int) < (H : Int) := by omega
      obtain ⟨b, o, rfl, _, _⟩ := H3.out.row.2.2 (by omega : 0 < n)
      have hH4 : IntKind.i64.wrap ((H : Int) - 4) = ((H - 4 : Nat) : Int) := (IntWalk.i64_in _ (by omega)).trans (by omega)
      have hHle : H ≤ n := by omega
      have hHc : (H : Int) ≤ (c : Int) := by omega
      obtain ⟨P4, hP4⟩ : ∃ P4, P4 = H - 4 := ⟨_, rfl⟩
      rw [← hP4] at hH4
      have hP4a : P4 + 4 = H := by omega
      have HP4 := Lib.hid hP4
      have hP4c : (P4 : Int) ≤ (c : Int) := by omega
      have hP4H : (P4 : Int) ≤ (H : Int) := by omega
      have hsub : H - P4 = 4 := by omega
      have hsubI : (H : Int) - (P4 : Int) = 4 := by omega
      have HG := Lib.hid (Get_c (some ⟨b, o + P4, none⟩) 4 (c - P4) ((l.drop P4).take 4) W3 (H3.out.row.from_ (by omega)))
      have HS := Lib.hid (Sum_c (some ⟨b, o, none⟩) P4 c (l.take P4) W3 (HT.out.below HB3.out rfl) (H3.out.row.take (by omega)))
      have hgv : getL (((l.drop P4).take 4).take 8) = atL l P4 4 := rfl
      rw [hgv] at HG
      have hlv := atL_lt4 l P4
      have hE2 : Hid (prE l = if ¬ atL l P4 4 = (sum32 (l.take P4)).n then 42 else if n < H + (8 + v5) then 20 else if H + (8 + v5) < n then 22 else 0) := by
        unfold Hid
        rw [HP.out, if_neg hs, ← HP4.out]
      have hsl := (sum32 (l.take P4)).lt
      generalize hva : atL l P4 4 = va at *
      generalize hvb : (sum32 (l.take P4)).n = vb at *
      have u1 : IntKind.u64.wrap (vb : Int) = (vb : Int) := by show (vb : Int) % 18446744073709551616 = _; omega
      clear hva hvb hP4 hgv
      have hb0 : b < w.heap.size + 1 := by
        obtain ⟨b', o', e', hb', _⟩ := H0.out.row.2.2 (by omega : 0 < n)
        cases e'
        simpa using hb'
      by_cases hvv : va = vb
      case neg =>
        have hne : ((va : Int) != (vb : Int)) = true := by rw [bne_iff_ne]; omega
        have hE42 : prE l = 42 := by rw [hE2.out, if_pos hvv]
        have HE42 := Lib.hid hE42
        clear hvv hE42
        have HP9 : Hid (∀ W', Below w.heap.size w W' → PrA w W' l (.returned (.tuple #[.agg #[.int .i64 0, .int .i64 0, .int .i64 0, .int .i64 0, .int .i64 0, .slice none 0 0], .slice none 0 0, .int .i64 42]))) := fun W' hb => PrA.err (HE42.out) (by decide) hb
        have t2 := st_sl HK3.out rfl #[.int .i64 0, .int .i64 0, .int .i64 0, .int .i64 0, .int .i64 0, .slice none 0 0] rfl (by simp [Value.oneCell'])
        have t3 := ld_sl (HK3.out.setRow #[.int .i64 0, .int .i64 0, .int .i64 0, .int .i64 0, .int .i64 0, .slice none 0 0]) rfl
        have HB9 := Lib.hid (below_setRowS HB3.out (Nat.le_refl _) #[.int .i64 0, .int .i64 0, .int .i64 0, .int .i64 0, .int .i64 0, .slice none 0 0])
        go_wp2_with (first | (go_at_call 40; refine HG.out.mono ?_; rintro e w' ⟨rfl, rfl⟩) | (go_at_call 27; refine HS.out.mono ?_; rintro e w' ⟨rfl, rfl⟩) | (with_reducible refine wpList_store_var _ _ _ (by with_unfolding_all rfl) (by with_unfolding_all rfl) t2 ?_))
        refine bodyPost_ret (v := .tuple #[.agg #[.int .i64 0, .int .i64 0, .int .i64 0, .int .i64 0, .int .i64 0, .slice none 0 0], .slice none 0 0, .int .i64 42]) ?_ rfl (HP9.out _ HB9.out)
        rw [results_cell_tt rfl]
        simp [asAddr, Result.andThen, t3]
      case pos =>
        have hne : ((va : Int) != (vb : Int)) = false := by rw [hvv]; simp
        have hE3 : Hid (prE l = if n < H + (8 + v5) then 20 else if H + (8 + v5) < n then 22 else 0) := by
          unfold Hid
          rw [hE2.out, if_neg (fun e => e hvv)]
        have z0 := (HX3.out.cell 0).trans (show _ = some (Value.int .i64 (v2 : Nat)) from rfl)
        have z1 := (HX3.out.cell 1).trans (show _ = some (Value.int .i64 (v3 : Nat)) from rfl)
        have z2 := (HX3.out.cell 2).trans (show _ = some (Value.int .i64 (v5 : Nat)) from rfl)
        have z3 := (HX3.out.cell 3).trans (show _ = some (Value.int .i64 (v6 : Nat)) from rfl)
        have s5 : IntKind.i64.wrap ((H : Int) + (8 + (v5 : Int))) = (H : Int) + (8 + (v5 : Int)) := IntWalk.i64_in _ (by omega)
        clear hvv
        go_wp2_with (first
          | (go_at_call 40; refine HG.out.mono ?_; rintro e w' ⟨rfl, rfl⟩)
          | (go_at_call 27; refine HS.out.mono ?_; rintro e w' ⟨rfl, rfl⟩)
          | fail)
        refine (HLg.out _).mono ?_
        rintro e W6 ⟨rfl, hb6⟩
        have HX6 := Lib.hid (HX3.out.below HX3.out.lt hb6)
        have HK6 := Lib.hid (HK3.out.below HK3.out.lt hb6)
        have HB6 := Lib.hid (HB3.out.trans (hb6.mono HB3.out.size))
        have H6 := Lib.hid (H3.out.below hb6)
        clear z0 z1 z2 z3 HX3 HK3 HB3 H3 hb6 HG HS HLg
        by_cases hw1 : n < H + (8 + v5)
        · have hw1i : (n : Int) < (H : Int) + (8 + (v5 : Int)) := by omega
          have hE20 : prE l = 20 := by rw [hE3.out, if_pos hw1]
          have HE20 := Lib.hid hE20
          clear hE20
          have HP9 : Hid (∀ W', Below w.heap.size w W' → PrA w W' l (.returned (.tuple #[.agg #[.int .i64 0, .int .i64 0, .int .i64 0, .int .i64 0, .int .i64 0, .slice none 0 0], .slice none 0 0, .int .i64 20]))) := fun W' hb => PrA.err (HE20.out) (by decide) hb
          have t2 := st_sl HK6.out rfl #[.int .i64 0, .int .i64 0, .int .i64 0, .int .i64 0, .int .i64 0, .slice none 0 0] rfl (by simp [Value.oneCell'])
          have t3 := ld_sl (HK6.out.setRow #[.int .i64 0, .int .i64 0, .int .i64 0, .int .i64 0, .int .i64 0, .slice none 0 0]) rfl
          have HB9 := Lib.hid (below_setRowS HB6.out (Nat.le_refl _) #[.int .i64 0, .int .i64 0, .int .i64 0, .int .i64 0, .int .i64 0, .slice none 0 0])
          go_wp2_with (with_reducible refine wpList_store_var _ _ _ (by with_unfolding_all rfl) (by with_unfolding_all rfl) t2 ?_)
          refine bodyPost_ret (v := .tuple #[.agg #[.int .i64 0, .int .i64 0, .int .i64 0, .int .i64 0, .int .i64 0, .slice none 0 0], .slice none 0 0, .int .i64 20]) ?_ rfl (HP9.out _ HB9.out)
          rw [results_cell_tt rfl]
          simp [asAddr, Result.andThen, t3]
        · have hw1i : ¬ (n : Int) < (H : Int) + (8 + (v5 : Int)) := by omega
          by_cases hw2 : H + (8 + v5) < n
          · have hw2i : (H : Int) + (8 + (v5 : Int)) < (n : Int) := by omega
            have hE22 : prE l = 22 := by rw [hE3.out, if_neg hw1, if_pos hw2]
            have HE22 := Lib.hid hE22
            clear hE22
            have HP9 : Hid (∀ W', Below w.heap.size w W' → PrA w W' l (.returned (.tuple #[.agg #[.int .i64 0, .int .i64 0, .int .i64 0, .int .i64 0, .int .i64 0, .slice none 0 0], .slice none 0 0, .int .i64 22]))) := fun W' hb => PrA.err (HE22.out) (by decide) hb
            have t2 := st_sl HK6.out rfl #[.int .i64 0, .int .i64 0, .int .i64 0, .int .i64 0, .int .i64 0, .slice none 0 0] rfl (by simp [Value.oneCell'])
            have t3 := ld_sl (HK6.out.setRow #[.int .i64 0, .int .i64 0, .int .i64 0, .int .i64 0, .int .i64 0, .slice none 0 0]) rfl
            have HB9 := Lib.hid (below_setRowS HB6.out (Nat.le_refl _) #[.int .i64 0, .int .i64 0, .int .i64 0, .int .i64 0, .int .i64 0, .slice none 0 0])
            go_wp2_with (with_reducible refine wpList_store_var _ _ _ (by with_unfolding_all rfl) (by with_unfolding_all rfl) t2 ?_)
            refine bodyPost_ret (v := .tuple #[.agg #[.int .i64 0, .int .i64 0, .int .i64 0, .int .i64 0, .int .i64 0, .slice none 0 0], .slice none 0 0, .int .i64 22]) ?_ rfl (HP9.out _ HB9.out)
            rw [results_cell_tt rfl]
            simp [asAddr, Result.andThen, t3]
          · have hw2i : ¬ (H : Int) + (8 + (v5 : Int)) < (n : Int) := by omega
            have hE0 : prE l = 0 := by rw [hE3.out, if_neg hw1, if_neg hw2]
            have HE0 := Lib.hid hE0
            clear hE0
            have hP20 : P4 - 20 = smN Q (v2 + v3) := by have := HHS.out; omega
            have hrw : ((l.take P4).drop 20).take (P4 - 20) = (l.drop 20).take (P4 - 20) := by rw [List.drop_take, List.take_take, Nat.min_self]
            have hra := (H6.out.row.take (k := P4) (by omega)).from_ (p := 20) (m := P4 - 20) (by omega)
            rw [hrw] at hra
            have HRA := Lib.hid hra
            have HTD := Lib.hid (fun W (hR : Row W (some ⟨b, o + 20, none⟩) (P4 - 20) ((l.drop 20).take (P4 - 20))) => HTold.out W _ (P4 - 20) (c - 20) _ hR hP20 (by omega))
            have HEQ : Hid (∀ r, r < v2 + v3 → tdR ((l.drop 20).take (P4 - 20)) Q r = tdR (l.drop 20) Q r) := fun r hr => tdR_take (by
              have h1 : (r + 1) * (Q * 4) ≤ (v2 + v3) * (Q * 4) := Nat.mul_le_mul_right _ hr
              rw [hP20]
              unfold smN
              rw [← Nat.mul_assoc] at h1
              omega)
            have y0 := (HX6.out.cell 0).trans (show _ = some (Value.int .i64 (v2 : Nat)) from rfl)
            have y1 := (HX6.out.cell 1).trans (show _ = some (Value.int .i64 (v3 : Nat)) from rfl)
            have y2 := (HX6.out.cell 2).trans (show _ = some (Value.int .i64 (v5 : Nat)) from rfl)
            have y3 := (HX6.out.cell 3).trans (show _ = some (Value.int .i64 (v6 : Nat)) from rfl)
            have hg6 : g5 < W6.heap.size := HX6.out.lt
            have b20 : (20 : Int) ≤ (P4 : Int) := by omega
            have b20c : (20 : Int) ≤ (c : Int) := by omega
            have c20 : ¬ c = 20 := by omega
            have cH : ¬ c = H := by omega
            have hL9 : n - H = 8 + v5 := by omega
            have HL9 := Lib.hid hL9
            have hHn : (H : Int) ≤ (n : Int) := by omega
            clear hL9
            clear hP20 hrw hra
            go_wp2_with fail
            refine wp_region_held_drew (S := fun W' => W'.cell? ⟨g5, 0, none⟩ = some (.int .i64 (v2 : Int)) ∧ W'.cell? ⟨g5, 1, none⟩ = some (.int .i64 (v3 : Int)) ∧ W'.cell? ⟨g5, 2, none⟩ = some (.int .i64 (v5 : Int)) ∧ W'.cell? ⟨g5, 3, none⟩ = some (.int .i64 (v6 : Int))) (by kernel_rfl) ?_ (fun hHeld => ?_)
            · go_keep
            refine wpAnyH_take (i := 0) (oi := { dst := some 59, op := _, type := _, pos := _, after := _, guard := _ }) (v := ?_) rfl (by kernel_rfl) (by kernel_rfl) (by kernel_rfl) (fun _ _ _ h => h) (Or.inl ⟨by rfl, ?_⟩) (by assumption) ?_
            rotate_left
            · intro w' hSw
              try dsimp only at hSw
              go_simp
              try with_reducible rfl
            try simp only [Act.put, List.setIfInBounds_toArray, List.set_cons_zero, List.set_cons_succ]
            refine wpAnyH_take (i := 1) (oi := { dst := some 60, op := _, type := _, pos := _, after := _, guard := _ }) (v := ?_) rfl (by kernel_rfl) (by kernel_rfl) (by kernel_rfl) (fun _ _ _ h => h) (Or.inl ⟨by rfl, ?_⟩) (by assumption) ?_
            rotate_left
            · intro w' hSw
              try dsimp only at hSw
              go_simp
              try with_reducible rfl
            try simp only [Act.put, List.setIfInBounds_toArray, List.set_cons_zero, List.set_cons_succ]
            refine wpAnyH_take (i := 2) (oi := { dst := some 61, op := _, type := _, pos := _, after := _, guard := _ }) (v := ?_) rfl (by kernel_rfl) (by kernel_rfl) (by kernel_rfl) (fun _ _ _ h => h) (Or.inl ⟨by rfl, ?_⟩) (by assumption) ?_
            rotate_left
            · intro w' hSw
              try dsimp only at hSw
              go_simp
              try with_reducible rfl
            try simp only [Act.put, List.setIfInBounds_toArray, List.set_cons_zero, List.set_cons_succ]
            refine wpAnyH_take (i := 3) (oi := { dst := some 62, op := _, type := _, pos := _, after := _, guard := _ }) (v := ?_) rfl (by kernel_rfl) (by kernel_rfl) (by kernel_rfl) (fun _ _ _ h => h) (Or.inl ⟨by rfl, ?_⟩) (by assumption) ?_
            rotate_left
            · intro w' hSw
              try dsimp only at hSw
              go_simp
              try with_reducible rfl
            try simp only [Act.put, List.setIfInBounds_toArray, List.set_cons_zero, List.set_cons_succ]
            refine wpAnyH_ready (rs := [4]) (by kernel_rfl) (by simp) ?_
            refine AllReadyH.cons (o := { dst := some 63, op := _, type := _, pos := _, after := _, guard := _ }) rfl (fun K hK => ?_) AllReadyH.nil
            go_simp
            go_at_call 41
            refine (HTD.out _ (HRA.out.drew)).mono ?_
            rintro e W7 ⟨g7, RA7, RC7, rfl, hgin7, hb7, hlo7, hrl7⟩
            try go_wp2_with fail
            have HX7 := Lib.hid (HX6.out.below HX6.out.lt ((below_drewN (Below.refl W6.heap.size W6) 1).trans hb7))
            have HK7 := Lib.hid (HK6.out.below HK6.out.lt ((below_drewN (Below.refl W6.heap.size W6) 1).trans hb7))
            have HB7 := Lib.hid (HB6.out.trans (((below_drewN (Below.refl W6.heap.size W6) 1).trans hb7).mono HB6.out.size))
            have H7 := Lib.hid (H6.out.below ((below_drewN (Below.refl W6.heap.size W6) 1).trans hb7))
            have HG7 := Lib.hid hgin7
            have x7 := (HX7.out.cell 5).trans (show _ = some (Value.slice none 0 0) from rfl)
            have f7 := HX7.out.frozen 5
            have HR7 := Lib.hid hrl7
            have hlo7' : W6.heap.size < g7 := hlo7
            clear hb7 hgin7 hrl7 hlo7
            refine hK.out _ _ ?_ (fun hHeld => ?_)
            · exact ⟨HX7.out.cell 0, HX7.out.cell 1, HX7.out.cell 2, HX7.out.cell 3⟩
            clear hK K
            try simp only [Act.put, List.setIfInBounds_toArray, List.set_cons_zero, List.set_cons_succ]
            refine wpAnyH_take (i := 5) (oi := { dst := some 64, op := _, type := _, pos := _, after := _, guard := _ }) (v := ?_) rfl (by kernel_rfl) (by kernel_rfl) (by kernel_rfl) (fun _ _ _ h => h) (Or.inl ⟨by rfl, ?_⟩) (by assumption) ?_
            rotate_left
            · intro w' hSw
              try dsimp only at hSw
              go_simp
              try with_reducible rfl
            try simp only [Act.put, List.setIfInBounds_toArray, List.set_cons_zero, List.set_cons_succ]
            refine wpAnyH_ready (rs := [6]) (by kernel_rfl) (by simp) ?_
            refine AllReadyH.cons (o := { dst := none, op := _, type := _, pos := _, after := _, guard := _ }) rfl (fun K hK => ?_) AllReadyH.nil
            go_simp
            try go_wp2_with fail
            have HX8 := Lib.hid (HX7.out.set_ 5 (.slice (some ⟨g7, 0, none⟩) (v2 + v3) (v2 + v3)))
            refine hK.out _ _ ?_ (fun hHeld => ?_)
            · exact ⟨HX8.out.cell 0, HX8.out.cell 1, HX8.out.cell 2, HX8.out.cell 3⟩
            clear hK K
            try simp only [Act.put, List.setIfInBounds_toArray, List.set_cons_zero, List.set_cons_succ]
            refine wpAnyH_done (by kernel_rfl) ?_ _
            have HK8 := Lib.hid (HK7.out.setOther (a := ⟨g5, 5, none⟩) (by show w.heap.size ≠ g5; omega) (.slice (some ⟨g7, 0, none⟩) (v2 + v3) (v2 + v3)))
            have HB8 : Hid (Below w.heap.size w (W7.setCell ⟨g5, 5, none⟩ (.slice (some ⟨g7, 0, none⟩) (v2 + v3) (v2 + v3)))) := HB7.out.setCell (by show w.heap.size ≤ g5; omega) _
            have HG8 := Lib.hid (((HG7.out.congr HEQ.out).keepS (lo := g7) (w' := W7.setCell ⟨g5, 5, none⟩ (.slice (some ⟨g7, 0, none⟩) (v2 + v3) (v2 + v3))) (by simp) (fun b hb _ => Below.heap_setCell _ _ _ _ (by show b ≠ g5; omega)) (fun b o e => by cases e; exact Nat.le_refl _) HR7.out))
            have H8 := Lib.hid (RowIn.mk (H7.out.row.setOther (a := ⟨g5, 5, none⟩) (fun b' o' e => by cases e; show b ≠ g5; omega) (.slice (some ⟨g7, 0, none⟩) (v2 + v3) (v2 + v3))) H7.out.le H7.out.max)
            have hrc := H8.out.row.from_ (p := H) (m := n - H) (by omega)
            have hrt : (l.drop H).take (n - H) = l.drop H := List.take_of_length_le (by rw [List.length_drop, HLE.out]; exact Nat.le_refl _)
            rw [hrt] at hrc
            have HRC := Lib.hid hrc
            have HCL := Lib.hid (fun W (hR : Row W (some ⟨b, o + H, none⟩) (n - H) (l.drop H)) => Clone_c (some ⟨b, o + H, none⟩) (n - H) (c - H) (l.drop H) W hR (by omega))
            clear hrc hrt
            have hg8 : w.heap.size < g5 := hlt01
            obtain ⟨W8, hW8⟩ : ∃ W8, W8 = W7.setCell ⟨g5, 5, none⟩ (.slice (some ⟨g7, 0, none⟩) (v2 + v3) (v2 + v3)) := ⟨_, rfl⟩
            rw [← hW8] at HX8 HK8 HB8 HG8 HRC H8 ⊢
            have hs8 : W7.heap.size ≤ W8.heap.size := by rw [hW8]; simp
            clear hW8
            have HX8' : Hid (Blk W8 g5 26 #[.int .i64 (v2 : Nat), .int .i64 (v3 : Nat), .int .i64 (v5 : Nat), .int .i64 (v6 : Nat), .int .i64 (v4 : Nat), .slice (some ⟨g7, 0, none⟩) (v2 + v3) (v2 + v3)]) := HX8
            clear HX8
            have HX8 := HX8'
            clear HX8'
            have x0 := (HX8.out.cell 0).trans (show _ = some (Value.int .i64 (v2 : Nat)) from rfl)
            have x1 := (HX8.out.cell 1).trans (show _ = some (Value.int .i64 (v3 : Nat)) from rfl)
            have x2 := (HX8.out.cell 2).trans (show _ = some (Value.int .i64 (v5 : Nat)) from rfl)
            have x3 := (HX8.out.cell 3).trans (show _ = some (Value.int .i64 (v6 : Nat)) from rfl)
            have x4 := (HX8.out.cell 4).trans (show _ = some (Value.int .i64 (v4 : Nat)) from rfl)
            have x5 := (HX8.out.cell 5).trans (show _ = some (Value.slice (some ⟨g7, 0, none⟩) (v2 + v3) (v2 + v3)) from rfl)
            clear x7 f7 y0 y1 y2 y3 H7 HX7 HK7 HB7 HG7
            go_wp2_with fail
            refine wp_region_held_drew (S := fun W' => W'.cell? ⟨g5, 0, none⟩ = some (.int .i64 (v2 : Int)) ∧ W'.cell? ⟨g5, 1, none⟩ = some (.int .i64 (v3 : Int)) ∧ W'.cell? ⟨g5, 2, none⟩ = some (.int .i64 (v5 : Int)) ∧ W'.cell? ⟨g5, 3, none⟩ = some (.int .i64 (v6 : Int)) ∧ W'.cell? ⟨g5, 4, none⟩ = some (.int .i64 (v4 : Int)) ∧ W'.cell? ⟨g5, 5, none⟩ = some (.slice (some ⟨g7, 0, none⟩) (v2 + v3) (v2 + v3))) (by kernel_rfl) ?_ (fun hHeld => ?_)
            · go_keep
            refine wpAnyH_take (i := 0) (oi := { dst := some 65, op := _, type := _, pos := _, after := _, guard := _ }) (v := ?_) rfl (by kernel_rfl) (by kernel_rfl) (by kernel_rfl) (fun _ _ _ h => h) (Or.inl ⟨by rfl, ?_⟩) (by assumption) ?_
            rotate_left
            · intro w' hSw
              try dsimp only at hSw
              go_simp
              try with_reducible rfl
            try simp only [Act.put, List.setIfInBounds_toArray, List.set_cons_zero, List.set_cons_succ]
            refine wpAnyH_take (i := 1) (oi := { dst := some 66, op := _, type := _, pos := _, after := _, guard := _ }) (v := ?_) rfl (by kernel_rfl) (by kernel_rfl) (by kernel_rfl) (fun _ _ _ h => h) (Or.inl ⟨by rfl, ?_⟩) (by assumption) ?_
            rotate_left
            · intro w' hSw
              try dsimp only at hSw
              go_simp
              try with_reducible rfl
            try simp only [Act.put, List.setIfInBounds_toArray, List.set_cons_zero, List.set_cons_succ]
            refine wpAnyH_take (i := 2) (oi := { dst := some 67, op := _, type := _, pos := _, after := _, guard := _ }) (v := ?_) rfl (by kernel_rfl) (by kernel_rfl) (by kernel_rfl) (fun _ _ _ h => h) (Or.inl ⟨by rfl, ?_⟩) (by assumption) ?_
            rotate_left
            · intro w' hSw
              try dsimp only at hSw
              go_simp
              try with_reducible rfl
            try simp only [Act.put, List.setIfInBounds_toArray, List.set_cons_zero, List.set_cons_succ]
            refine wpAnyH_take (i := 3) (oi := { dst := some 68, op := _, type := _, pos := _, after := _, guard := _ }) (v := ?_) rfl (by kernel_rfl) (by kernel_rfl) (by kernel_rfl) (fun _ _ _ h => h) (Or.inl ⟨by rfl, ?_⟩) (by assumption) ?_
            rotate_left
            · intro w' hSw
              try dsimp only at hSw
              go_simp
              try with_reducible rfl
            try simp only [Act.put, List.setIfInBounds_toArray, List.set_cons_zero, List.set_cons_succ]
            refine wpAnyH_ready (rs := [4]) (by kernel_rfl) (by simp) ?_
            refine AllReadyH.cons (o := { dst := some 69, op := _, type := _, pos := _, after := _, guard := _ }) rfl (fun K hK => ?_) AllReadyH.nil
            go_simp
            go_at_call 42
            refine (HCL.out _ HRC.out.drew).mono ?_
            rintro e W9 ⟨A9, c9, rfl, hown9, hb9⟩
            try go_wp2_with fail
            have HX9 := Lib.hid (HX8.out.below HX8.out.lt ((below_drewN (Below.refl W8.heap.size W8) 1).trans hb9))
            have HK9 := Lib.hid (HK8.out.below HK8.out.lt ((below_drewN (Below.refl W8.heap.size W8) 1).trans hb9))
            have HB9 := Lib.hid (HB8.out.trans (((below_drewN (Below.refl W8.heap.size W8) 1).trans hb9).mono HB8.out.size))
            have HG9 := Lib.hid (HG8.out.below ((below_drewN (Below.refl W8.heap.size W8) 1).trans hb9))
            have HO9 := Lib.hid hown9
            have t2 := st_sl HK9.out rfl #[.int .i64 (v2 : Nat), .int .i64 (v3 : Nat), .int .i64 (v5 : Nat), .int .i64 (v6 : Nat), .int .i64 (v4 : Nat), .slice (some ⟨g7, 0, none⟩) (v2 + v3) (v2 + v3)] rfl (by simp [Value.oneCell'])
            have t3 := ld_sl (HK9.out.setRow #[.int .i64 (v2 : Nat), .int .i64 (v3 : Nat), .int .i64 (v5 : Nat), .int .i64 (v6 : Nat), .int .i64 (v4 : Nat), .slice (some ⟨g7, 0, none⟩) (v2 + v3) (v2 + v3)]) rfl
            have HXa := Lib.hid (HX9.out.setRowO (g := w.heap.size) (by omega) #[.int .i64 (v2 : Nat), .int .i64 (v3 : Nat), .int .i64 (v5 : Nat), .int .i64 (v6 : Nat), .int .i64 (v4 : Nat), .slice (some ⟨g7, 0, none⟩) (v2 + v3) (v2 + v3)])
            clear hb9 hown9
            refine hK.out _ _ ?_ (fun hHeld => ?_)
            · exact ⟨HX9.out.cell 0, HX9.out.cell 1, HX9.out.cell 2, HX9.out.cell 3, HX9.out.cell 4, HX9.out.cell 5⟩
            clear hK K
            try simp only [Act.put, List.setIfInBounds_toArray, List.set_cons_zero, List.set_cons_succ]
            refine wpAnyH_ready (rs := [5]) (by kernel_rfl) (by simp) ?_
            refine AllReadyH.cons (o := { dst := none, op := _, type := _, pos := _, after := _, guard := _ }) rfl (fun K hK => ?_) AllReadyH.nil
            refine step_store_at rfl (.tmp 2) (.tmp 65) 26 rfl _ _ _ (by with_unfolding_all rfl) (by with_unfolding_all rfl) t2 ?_
            refine hK.out _ _ ?_ (fun hHeld => ?_)
            · exact ⟨HXa.out.cell 0, HXa.out.cell 1, HXa.out.cell 2, HXa.out.cell 3, HXa.out.cell 4, HXa.out.cell 5⟩
            clear hK K
            try simp only [Act.put]
            refine wpAnyH_take (i := 6) (oi := { dst := some 3, op := _, type := _, pos := _, after := _, guard := _ }) (v := ?_) rfl (by kernel_rfl) (by kernel_rfl) (by kernel_rfl) (fun _ _ _ h => h) (Or.inl ⟨by rfl, ?_⟩) (by assumption) ?_
            rotate_left
            · intro w' hSw
              try dsimp only at hSw
              go_simp
              try with_reducible rfl
            try simp only [Act.put, List.setIfInBounds_toArray, List.set_cons_zero, List.set_cons_succ]
            refine wpAnyH_take (i := 7) (oi := { dst := some 4, op := _, type := _, pos := _, after := _, guard := _ }) (v := ?_) rfl (by kernel_rfl) (by kernel_rfl) (by kernel_rfl) (fun _ _ _ h => h) (Or.inl ⟨by rfl, ?_⟩) (by assumption) ?_
            rotate_left
            · intro w' hSw
              try dsimp only at hSw
              go_simp
              try with_reducible rfl
            try simp only [Act.put, List.setIfInBounds_toArray, List.set_cons_zero, List.set_cons_succ]
            refine wpAnyH_done (by kernel_rfl) ?_ _
            have hsz9 := HX9.out.lt
            have hG := HG9.out.keepS (lo := g7) (w' := W9.setRow w.heap.size #[.int .i64 (v2 : Nat), .int .i64 (v3 : Nat), .int .i64 (v5 : Nat), .int .i64 (v6 : Nat), .int .i64 (v4 : Nat), .slice (some ⟨g7, 0, none⟩) (v2 + v3) (v2 + v3)]) (by simp) (fun b hb _ => heap_setRowS W9 #[.int .i64 (v2 : Nat), .int .i64 (v3 : Nat), .int .i64 (v5 : Nat), .int .i64 (v6 : Nat), .int .i64 (v4 : Nat), .slice (some ⟨g7, 0, none⟩) (v2 + v3) (v2 + v3)] (by omega)) (fun b o e => by cases e; exact Nat.le_refl _) HR7.out
            have hCo := own_in (own_setRowS HO9.out (by have h9 := HX8.out.lt; show w.heap.size < W8.heap.size; omega) #[.int .i64 (v2 : Nat), .int .i64 (v3 : Nat), .int .i64 (v5 : Nat), .int .i64 (v6 : Nat), .int .i64 (v4 : Nat), .slice (some ⟨g7, 0, none⟩) (v2 + v3) (v2 + v3)])
            have hBe := below_setRowS HB9.out (Nat.le_refl _) #[.int .i64 (v2 : Nat), .int .i64 (v3 : Nat), .int .i64 (v5 : Nat), .int .i64 (v6 : Nat), .int .i64 (v4 : Nat), .slice (some ⟨g7, 0, none⟩) (v2 + v3) (v2 + v3)]
            have HFIN := Lib.hid (HOK.out _ _ _ _ _ _ _ _ HE0.out hG hCo hBe)
            clear hG hCo hBe t2
            try go_wp2_with fail
            refine bodyPost_ret (v := .tuple #[.agg #[.int .i64 (v2 : Nat), .int .i64 (v3 : Nat), .int .i64 (v5 : Nat), .int .i64 (v6 : Nat), .int .i64 (v4 : Nat), .slice (some ⟨g7, 0, none⟩) (v2 + v3) (v2 + v3)], .slice A9 (n - H) c9, .int .i64 0]) ?_ rfl HFIN.out
            rw [results_cell_tt rfl]
            simp [asAddr, Result.andThen, t3]
end Go.Proofs.YtbgdoemealddpaaDoor
