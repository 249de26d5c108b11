/-
  SPAN: check, New, clone, Row. Conditions: how many volumes there are, and bytes.
-/
import Derived.Test.YtkijagodedmipaaSph
import Derived.Test.YtkijagodedmipaaBits
namespace Go.Proofs.Ytkijagodedmipaa
open Go.RowKit
set_option maxRecDepth 100000
set_option linter.unusedVariables false

def chkS (s : Int) : Int := if s < 5 ∨ 16777216 < s then 1 else 0
theorem check_c (s : Int) (w : World) : Calls Try.prog 24 #[.int .i64 s] w fun e w' => e = .returned (.int .i64 (chkS s)) ∧ w = w' := by
  unfold chkS
  by_cases h1 : s < 5
  · rw [if_pos (.inl h1)]
    go_enter Try.func24, Try.ntmps24
    go_wp2
    go_ret
    exact ⟨rfl, rfl⟩
  · by_cases h2 : 16777216 < s
    · rw [if_pos (.inr h2)]
      go_enter Try.func24, Try.ntmps24
      go_wp2
      go_ret
      exact ⟨rfl, rfl⟩
    · rw [if_neg (by omega)]
      go_enter Try.func24, Try.ntmps24
      go_wp2
      go_ret
      exact ⟨rfl, rfl⟩
def pk4 : List F := [ofN 80, ofN 75, ofN 7, ofN 8]
theorem put_pk : putL 134695760 4 = pk4 := by decide
def v0 : Vs := ⟨[], pk4⟩
theorem v0_ok {S : Nat} (h : 5 ≤ S) : VOk S v0 := ⟨by decide, by show 4 ≤ S; omega, fun x hx => by cases hx⟩
/-- what New answers -/
def NwR (w : World) (s : Int) (e : Ending) (w' : World) : Prop :=
  (chkS s ≠ 0 ∧ e = .returned (.tuple #[.pointer none, .int .i64 (chkS s)]) ∧ Below w.heap.size w w') ∨
    ∃ (S p : Nat), s = (S : Int) ∧ 5 ≤ S ∧ S ≤ 16777216 ∧ e = .returned (.tuple #[.pointer (some ⟨p, 0, none⟩), .int .i64 0]) ∧ Below w.heap.size w w' ∧ Spw w' w.heap.size p S v0 (Fgrow (fun _ => False) w.heap.size w'.heap.size)
theorem NwR.no {w : World} {s : Int} {e : Ending} {w' : World} (h1 : chkS s = 1) (h2 : e = .returned (.tuple #[.pointer none, .int .i64 1])) (h3 : Below w.heap.size w w') : NwR w s e w' := .inl ⟨by rw [h1]; decide, by rw [h1]; exact h2, h3⟩
theorem NwR.yes {w : World} {s : Int} {e : Ending} {w' : World} (S p : Nat) (h0 : s = (S : Int)) (h1 : 5 ≤ S) (h2 : S ≤ 16777216) (h3 : e = .returned (.tuple #[.pointer (some ⟨p, 0, none⟩), .int .i64 0])) (h4 : Below w.heap.size w w') (h5 : Spw w' w.heap.size p S v0 (Fgrow (fun _ => False) w.heap.size w'.heap.size)) : NwR w s e w' := .inr ⟨S, p, h0, h1, h2, h3, h4, h5⟩
set_option maxHeartbeats 1000000 in
theorem New_c (s : Int) (hw : (Lit.int .i64 s).wf = true) (w : World) : Calls Try.prog 9 #[.int .i64 s] w fun e w' => NwR w s e w' := by
  by_cases h1 : s < 5 ∨ 16777216 < s
  · have HC : Hid (chkS s = 1) := if_pos h1
    clear h1
    go_enter Try.func9, Try.ntmps9
    go_wp2_with fail
    refine (check_c s w).mono ?_
    rintro e _ ⟨rfl, rfl⟩
    rw [HC.out]
    go_wp2
    go_ret2
    exact NwR.no HC.out rfl (Below.refl _ _)
  · have HC : Hid (chkS s = 0) := if_neg h1
    obtain ⟨S, rfl⟩ : ∃ S : Nat, s = (S : Int) := ⟨s.toNat, by omega⟩
    have h5 : 5 ≤ S := by omega
    have h6 : S ≤ 16777216 := by omega
    clear h1
    go_enter Try.func9, Try.ntmps9
    go_wp2_with fail
    refine (check_c S w).mono ?_
    rintro e _ ⟨rfl, rfl⟩
    rw [HC.out]
    go_wp2_with fail
    refine (Put_c 134695760 (by unfold two64; omega) 4 w).mono ?_
    rintro e w1 ⟨g1, rfl, hown, hb1⟩
    rw [show heldN 4 8 = 4 by decide, put_pk] at *
    have hb2 := (Below.refl w1.heap.size w1).alloc (Nat.le_refl _) (.cells #[.slice (some ⟨g1, 0, none⟩) 4 4] 33)
    have hb3 := (Below.refl (w1.alloc (.cells #[.slice (some ⟨g1, 0, none⟩) 4 4] 33)).heap.size _).alloc (Nat.le_refl _) (.cells #[.int .i64 (S : Int), .slice (some ⟨w1.heap.size, 0, none⟩) 1 1] 62)
    have hg1 := hown.lt g1 rfl
    have hs1 := hb1.size
    have hp : (w1.alloc (.cells #[.slice (some ⟨g1, 0, none⟩) 4 4] 33)).heap.size = w1.heap.size + 1 := by simp
    have hsz : ((w1.alloc (.cells #[.slice (some ⟨g1, 0, none⟩) 4 4] 33)).alloc (.cells #[.int .i64 (S : Int), .slice (some ⟨w1.heap.size, 0, none⟩) 1 1] 62)).heap.size = w1.heap.size + 2 := by simp
    have hK := Blk.new (w1.alloc (.cells #[.slice (some ⟨g1, 0, none⟩) 4 4] 33)) 62 #[.int .i64 (S : Int), .slice (some ⟨w1.heap.size, 0, none⟩) 1 1]
    rw [hp] at hK
    have hT : ((w1.alloc (.cells #[.slice (some ⟨g1, 0, none⟩) 4 4] 33)).alloc (.cells #[.int .i64 (S : Int), .slice (some ⟨w1.heap.size, 0, none⟩) 1 1] 62)).ownsRow w.heap.size 33 1 (.slice (some ⟨w1.heap.size, 0, none⟩) 1 1) 1 (rcs (fun _ => some ⟨g1, 0, none⟩) (vrow v0) (fun _ => 4) 1) :=
      (World.ownsRow_lit (e := 33) (size := 1) w1 #[.slice (some ⟨g1, 0, none⟩) 4 4] 1 hs1 (by unfold maxLen; decide) rfl).alloc _
    have hS9 : Spt ((w1.alloc (.cells #[.slice (some ⟨g1, 0, none⟩) 4 4] 33)).alloc (.cells #[.int .i64 (S : Int), .slice (some ⟨w1.heap.size, 0, none⟩) 1 1] 62)) w.heap.size (w1.heap.size + 1) S 1 (vrow v0) (Fgrow (fun _ => False) w.heap.size (w1.heap.size + 2)) w1.heap.size 1 (fun _ => some ⟨g1, 0, none⟩) (fun _ => 4) := by
      refine ⟨hK, hT, fun r hr => ?_, .inr ⟨by omega, by omega⟩, .inr ⟨by omega, by omega⟩, by omega, fun k hk => ?_⟩
      · obtain rfl : r = 0 := by omega
        refine ⟨(hown.alloc _).alloc _, fun b hb => ?_⟩
        injection hb with hb
        have hb' : g1 = b := hb
        subst hb'
        exact ⟨.inr ⟨by omega, by omega⟩, by omega, by omega, fun s hs => by omega⟩
      · rw [hsz]
        rcases hk with hk | hk
        · exact hk.elim
        · exact hk
    have hS10 : Spw ((w1.alloc (.cells #[.slice (some ⟨g1, 0, none⟩) 4 4] 33)).alloc (.cells #[.int .i64 (S : Int), .slice (some ⟨w1.heap.size, 0, none⟩) 1 1] 62)) w.heap.size (w1.heap.size + 1) S v0 (Fgrow (fun _ => False) w.heap.size ((w1.alloc (.cells #[.slice (some ⟨g1, 0, none⟩) 4 4] 33)).alloc (.cells #[.int .i64 (S : Int), .slice (some ⟨w1.heap.size, 0, none⟩) 1 1] 62)).heap.size) := by
      rw [hsz]
      exact ⟨_, _, _, _, hS9⟩
    have HS10 := Lib.hid hS10
    have HB9 := Lib.hid ((hb1.trans (hb2.mono hs1)).trans (hb3.mono (by omega)))
    clear hb1 hb2 hb3 hown hg1 hs1 hp hsz hK hT hS9 hS10
    go_wp2
    go_ret2
    exact NwR.yes S (w1.heap.size + 1) rfl h5 h6 rfl HB9.out HS10.out
theorem info_rw : (Try.prog.info? 33).map (fun i => (i.zero, i.size, i.bytes)) = some (some (.slice none 0 0), 1, 24) := by kernel_rfl
theorem rcs_cells {w : World} {b off n : Nat} {RA : Nat → Option Addr} {R : Nat → List F} {RC : Nat → Nat} (h : ∀ r, r < n → w.cell? ⟨b, off + r, none⟩ = some (.slice (RA r) (R r).length (RC r))) : ∀ j u, (rcs RA R RC n)[j]? = some u → w.cell? ((⟨b, off, none⟩ : Addr).add j) = some u := by
  intro j u hu
  have hj : j < n := by
    have := (List.getElem?_eq_some_iff.1 hu).1
    rwa [rcs_length] at this
  have e : (⟨b, off, none⟩ : Addr).add j = ⟨b, off + j, none⟩ := by unfold Addr.add; split <;> simp_all
  rw [rcs_at hj] at hu
  rw [e, h j hj, ← hu]
/-- rows that came in, told by what they are -/
def MInR (w : World) (A : Option Addr) (n cap : Nat) (RA : Nat → Option Addr) (RC : Nat → Nat) (R : Nat → List F) : Prop := MIn w A n cap RA (fun r => (R r).length) RC R
theorem CloneV_c {w : World} {A : Option Addr} {n cap : Nat} {RA : Nat → Option Addr} {RC : Nat → Nat} {R : Nat → List F} (h : MInR w A n cap RA RC R) (hn : n ≤ 1000000) (h0 : 0 < n) :
    Calls Try.prog 32 #[.slice A n cap] w fun e w' => ∃ g c, e = .returned (.slice (some ⟨g, 0, none⟩) n c) ∧ w'.ownsRow w.heap.size 33 1 (.slice (some ⟨g, 0, none⟩) n c) n (rcs RA R RC n) ∧ Below w.heap.size w w' := by
  obtain ⟨i0, hi, hz0, hz1, hz2⟩ := info_parts info_rw
  have q22 : ∀ (w : World) (a : Option Addr) (n c n' c' : Nat), (binOp .eql 29 (.slice a n c) (.slice none n' c')).run Try.prog w = .ok (.bool a.isNone) w := fun w a n c n' c' => Lib.run_eql_slice_nil w _ _ a n c n' c' Try.underlying29
  obtain ⟨b, off, rfl, _, hc⟩ := h.top h0
  have hb := (Below.refl w.heap.size w).alloc (Nat.le_refl _) (.cells #[] 33)
  have h1 : ∀ j u, (rcs RA R RC n)[j]? = some u → (w.alloc (.cells #[] 33)).cell? ((⟨b, off, none⟩ : Addr).add j) = some u := by
    obtain ⟨b2, off2, e2, _, hc2⟩ := (MIn.below h hb).top h0
    injection e2 with e2
    injection e2 with e2 e3 _
    subst e2 e3
    exact rcs_cells hc2
  have HC := Lib.hid h1
  clear h1 h hb hc
  go_enter Try.func32, Try.ntmps32
  go_wp2_with (at_builtin; refine wpList_append_lies _ rfl _ _ 29 rfl w.heap.size 33 i0 (.slice none 0 0) 1 24 Try.underlying29 hi hz0 hz1 hz2 rfl (by decide) _ _ _ rfl (World.ownsRow_made w #[] 0 (Nat.le_refl _) (Nat.zero_le _) rfl) ⟨b, off, none⟩ n cap (rcs RA R RC n) rfl (by rw [rcs_length, Nat.mul_one]) HC.out rcs_one h0 (by unfold maxLen; omega) (by omega) (by simp) (w.heap.size + 1) (by simp) ?_; intro g c w1 hown hgrow hat hlt)
  rw [Nat.zero_add, List.nil_append] at hown
  go_ret
  exact ⟨g, c, rfl, hown, ((Below.refl _ w).alloc (Nat.le_refl _) _).grown hgrow (by simp) (fun k hk => by cases hk; exact Nat.le_refl _)⟩
theorem upd_same {α : Type} (f : Nat → α) (l : Nat) : upd f l (f l) = f := by
  funext r
  unfold upd
  by_cases e : r = l
  · subst e; simp
  · simp [e]
theorem own_ltc {w : World} {base n g c : Nat} {e : TypeId} {xs : List Value} (h : w.ownsRow base e 1 (.slice (some ⟨g, 0, none⟩) n c) n xs) : base ≤ g ∧ g < w.heap.size := h.lt g rfl
/-- what clone answers -/
def ClnR (w : World) (n : Nat) (R : Nat → List F) (e : Ending) (w' : World) : Prop :=
  ∃ (g c : Nat) (RA : Nat → Option Addr) (RC : Nat → Nat), e = .returned (.slice (some ⟨g, 0, none⟩) n c) ∧ w'.ownsRow w.heap.size 33 1 (.slice (some ⟨g, 0, none⟩) n c) n (rcs RA R RC n) ∧ SRows w' w.heap.size g g (fun k => w.heap.size ≤ k ∧ k < w'.heap.size) n RA RC R ∧ Below w.heap.size w w'
theorem ClnR.of {w : World} {n : Nat} {R : Nat → List F} {e : Ending} {w' : World} (g c : Nat) (RA : Nat → Option Addr) (RC : Nat → Nat) (h1 : e = .returned (.slice (some ⟨g, 0, none⟩) n c)) (h2 : w'.ownsRow w.heap.size 33 1 (.slice (some ⟨g, 0, none⟩) n c) n (rcs RA R RC n)) (h3 : SRows w' w.heap.size g g (fun k => w.heap.size ≤ k ∧ k < w'.heap.size) n RA RC R) (h4 : Below w.heap.size w w') : ClnR w n R e w' := ⟨g, c, RA, RC, h1, h2, h3, h4⟩
set_option maxHeartbeats 4000000 in
theorem clone_c {w : World} {A : Option Addr} {n cap : Nat} {RA : Nat → Option Addr} {RC : Nat → Nat} {R : Nat → List F} (h : MInR w A n cap RA RC R) (hn : n ≤ 1000000) (h0 : 0 < n) (hl : ∀ r, r < n → (R r).length ≤ 16777216) :
    Calls Try.prog 28 #[.slice A n cap] w fun e w' => ClnR w n R e w' := by
  have H := Lib.hid h
  have HL := Lib.hid hl
  have HC := Lib.hid (CloneV_c h hn h0)
  clear h hl
  go_enter Try.func28, Try.ntmps28
  go_wp2_with fail
  refine HC.out.mono ?_
  rintro e w1 ⟨g, c, rfl, hown, hb1⟩
  have HB1 := Lib.hid hb1
  have HT1 := Lib.hid hown
  clear hb1 HC hown
  go_wp2
  go_loopw [10] (fun iv wr => ∃ (k : Nat) (RA' : Nat → Option Addr) (RC' : Nat → Nat), k ≤ n ∧ iv = .int .i64 k ∧ Hid (wr.ownsRow w.heap.size 33 1 (.slice (some ⟨g, 0, none⟩) n c) n (rcs RA' R RC' n)) ∧ Hid (SRows wr w.heap.size g g (fun k => w.heap.size ≤ k ∧ k < wr.heap.size) k RA' RC' R) ∧ Hid (Below w.heap.size w wr)) (fun iv _ => n - (intOf iv).toNat)
  case atStart => exact ⟨0, RA, RC, by omega, rfl, HT1, fun r hr => absurd hr (by omega), HB1⟩
  case round =>
    obtain ⟨k, RA', RC', hk, rfl, hT, hR, hb⟩ := hrel
    by_cases hlt : k < n
    · have hkn : (k : Int) < n := by omega
      have hM := MIn.below H.out hb.out
      obtain ⟨b1, o1, rfl, l1, q1⟩ := hM.at_ hlt
      have hrow := (hM.row k hlt).row
      have hlk := HL.out k hlt
      have HC := Lib.hid (Clone_c (RA k) (R k).length (RC k) (R k) wr hrow (by omega))
      clear hM hrow
      go_wp2_with fail
      refine HC.out.mono ?_
      rintro e w4 ⟨A4, c4, rfl, hown4, hb4⟩
      have hT4 := own_below hT.out hb4
      have hgl := own_ltc hT.out
      have hsz := hb4.size
      have x1 : w4.cell? ⟨g, k, none⟩ = some (.slice (RA' k) (R k).length (RC' k)) := by rw [hT4.cellAt k (by omega), rcs_at hlt]
      have xf := hT4.frozenAt k
      have hA4 : ∀ q, obk A4 = some q → wr.heap.size ≤ q ∧ q < w4.heap.size := fun q hq => hown4.lt q (by rw [ownBlock_slice]; exact hq)
      have HT5 : Hid ((w4.setCell ⟨g, k, none⟩ (.slice A4 (R k).length c4)).ownsRow w.heap.size 33 1 (.slice (some ⟨g, 0, none⟩) n c) n (rcs (upd RA' k A4) R (upd RC' k c4) n)) := by
        have h9 := (hT4.stored k (.slice A4 (R k).length c4)).1
        rw [rcs_set hlt, upd_same] at h9
        exact h9
      have hss : (w4.setCell ⟨g, k, none⟩ (.slice A4 (R k).length c4)).heap.size = w4.heap.size := by simp [World.setCell]
      have HR5 : Hid (SRows (w4.setCell ⟨g, k, none⟩ (.slice A4 (R k).length c4)) w.heap.size g g (fun q => w.heap.size ≤ q ∧ q < (w4.setCell ⟨g, k, none⟩ (.slice A4 (R k).length c4)).heap.size) (k + 1) (upd RA' k A4) (upd RC' k c4) R) := fun r hr => by
        rw [hss]
        have hbs := hb.out.size
        by_cases e : r = k
        · subst e
          rw [upd_at, upd_at]
          refine ⟨own_setNeS (own_base hown4 hbs) (fun q hq => by rw [ownBlock_slice] at hq; have := hA4 q hq; simp; omega) _, fun q hq => ⟨⟨by have := hA4 q hq; omega, by have := hA4 q hq; omega⟩, by have := hA4 q hq; omega, by have := hA4 q hq; omega, fun s hs e2 => ?_⟩⟩
          rw [upd_ne _ _ (by omega)] at e2
          have h9 := ((hR.out s hs).2 q e2).1
          have := hA4 q hq
          omega
        · obtain ⟨g1, g2⟩ := hR.out r (by omega)
          rw [upd_ne _ _ e, upd_ne _ _ e]
          refine ⟨own_setNeS (own_below g1 hb4) (fun q hq => by rw [ownBlock_slice] at hq; have := (g2 q hq).2.1; simpa using this) _, fun q hq => ⟨⟨(g2 q hq).1.1, by have := (g2 q hq).1.2; omega⟩, (g2 q hq).2.1, (g2 q hq).2.2.1, fun s hs => ?_⟩⟩
          rw [upd_ne _ _ (by omega)]
          exact (g2 q hq).2.2.2 s hs
      have HB5 : Hid (Below w.heap.size w (w4.setCell ⟨g, k, none⟩ (.slice A4 (R k).length c4))) := (hb.out.trans (hb4.mono hb.out.size)).setCell (p := ⟨g, k, none⟩) hgl.1 _
      clear hT4 hA4 hown4 hb4 hT hR hb q1 HC hss hsz hgl
      go_wp2
      go_roundw
      case rel => exact ⟨k + 1, _, _, by omega, by go_num, HT5, HR5, HB5⟩
      case measure => simp [intOf]; omega
    · obtain rfl : k = n := by omega
      go_wp2
      go_ret
      exact ClnR.of g c RA' RC' rfl hT.out hR.out hb.out
/-- rows that were laid from a block on -/
structure MAt (w : World) (lo : Nat) (A : Option Addr) (n cap : Nat) (RA : Nat → Option Addr) (RC : Nat → Nat) (R : Nat → List F) : Prop where
  min : MInR w A n cap RA RC R
  top : ∀ x o, A = some ⟨x, o, none⟩ → lo ≤ x ∧ x < w.heap.size
  rows : ∀ r, r < n → ∀ x o, RA r = some ⟨x, o, none⟩ → lo ≤ x ∧ x < w.heap.size
theorem ClnR.at_ {w w' : World} {n : Nat} {R : Nat → List F} {e : Ending} (h : ClnR w n R e w') : ∃ g c RA RC, e = .returned (.slice (some ⟨g, 0, none⟩) n c) ∧ MAt w' w.heap.size (some ⟨g, 0, none⟩) n c RA RC R ∧ Below w.heap.size w w' := by
  obtain ⟨g, c, RA, RC, h1, h2, h3, h4⟩ := h
  have hc : n ≤ c ∧ c ≤ maxLen := by
    obtain ⟨A', c', e, h5, h6⟩ := own_shape h2
    injection e with _ _ e
    subst e
    exact ⟨h5, h6⟩
  refine ⟨g, c, RA, RC, h1, ⟨⟨hc.1, hc.2, fun _ => ⟨g, 0, rfl, (own_ltc h2).2, fun r hr => by rw [Nat.zero_add, h2.cellAt r (by omega), rcs_at hr]⟩, fun r hr => own_in (h3 r hr).1⟩, fun x o e => ?_, fun r hr x o e => ?_⟩, h4⟩
  · injection e with e
    injection e with e _ _
    subst e
    exact own_ltc h2
  · exact ((h3 r hr).2 x (by rw [e]; rfl)).1
theorem Spw.min {w : World} {base p S : Nat} {v : Vs} {Fp : Nat → Prop} (h : Spw w base p S v Fp) : ∃ g c RA RC, w.cell? ⟨p, 1, none⟩ = some (.slice (some ⟨g, 0, none⟩) (v.P.length + 1) c) ∧ MInR w (some ⟨g, 0, none⟩) (v.P.length + 1) c RA RC (vrow v) := by
  obtain ⟨g, c, RA, RC, h⟩ := h
  exact ⟨g, c, RA, RC, h.blk.cell 1, h.min⟩
theorem RowW_c {w : World} {base p S : Nat} {v : Vs} {Fp : Nat → Prop} (h : Spw w base p S v Fp) (hv : VOk S v) (hS : S ≤ 16777216) (hm : v.P.length < 1000000) :
    Calls Try.prog 16 #[.pointer (some ⟨p, 0, none⟩)] w fun e w' => ∃ g c RA RC, e = .returned (.slice (some ⟨g, 0, none⟩) (v.P.length + 1) c) ∧ MAt w' w.heap.size (some ⟨g, 0, none⟩) (v.P.length + 1) c RA RC (vrow v) ∧ Below w.heap.size w w' := by
  obtain ⟨g, c, RA, RC, hz, hM⟩ := h.min
  have HC := Lib.hid (clone_c hM (by omega) (by omega) (fun r hr => by have := (hv.row hr).2; omega))
  generalize v.P.length + 1 = n at *
  clear hM
  go_enter Try.func16, Try.ntmps16
  go_wp2_with fail
  refine HC.out.mono ?_
  rintro e w1 hq
  obtain ⟨g', c', RA', RC', rfl, hA, hb⟩ := hq.at_
  have HA := Lib.hid hA
  have HB := Lib.hid hb
  clear hA hb hq
  go_wp2
  go_ret
  exact ⟨g', c', RA', RC', rfl, HA.out, HB.out⟩
end Go.Proofs.Ytkijagodedmipaa
