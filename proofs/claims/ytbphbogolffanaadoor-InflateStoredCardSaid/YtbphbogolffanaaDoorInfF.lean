/-
  THE CONTRACTS OF inflate's newTable, newCodes, fixedCodes. No conditions.
-/
import Derived.Test.YtbphbogolffanaaDoorInfE
namespace Go.Proofs.YtbphbogolffanaaDoor
open Go.RowKit
set_option maxRecDepth 100000
set_option linter.unusedVariables false

theorem errC_lt (l : List Int) (n : Nat) : errC l n < 100 := by have := errC_le l n; omega
set_option maxHeartbeats 400000 in
theorem newTable_c (A : Option Addr) (n c : Nat) (l : List Int) (w : World) (h : IRow w A n .i64 l) :
    Calls Tryd.prog 61 #[.slice A n c] w fun e w' =>
      (errC l n ≠ 0 ∧ e = .panicked [{ v := .iface 24 (.int .i64 (errC l n)), recovered := false }] ∧ Below w.heap.size w w') ∨
      (errC l n = 0 ∧ ∃ q gc LA lc S, e = .returned (.pointer (some ⟨q, 0, none⟩)) ∧ TabIn w' q n l gc LA lc S ∧ TabLo w.heap.size q gc LA S ∧ Below w.heap.size w w') := by
  by_cases he : errC l n = 0
  · have HN := Lib.hid (New_lo A n c l w h he)
    have HE := Lib.hid he
    clear h he
    go_enter Tryd.func61, Tryd.ntmps61
    go_wp2_with (go_at_call 71; refine HN.out.mono ?_; rintro e w' ⟨p, gc, LA, lc, S, rfl, h1, h2, h3⟩)
    go_ret
    exact .inr ⟨HE.out, p, gc, LA, lc, S, rfl, h1, h2, h3⟩
  · have HN := Lib.hid (New_no A n c l w h he)
    have HE := Lib.hid he
    have hne : (((errC l n : Nat) : Int) != 0) = true := by rw [bne_iff_ne]; omega
    obtain ⟨x, hx⟩ : ∃ x, x = errC l n := ⟨_, rfl⟩
    rw [← hx] at HN HE hne ⊢
    clear h he hx
    go_enter Tryd.func61, Tryd.ntmps61
    go_wp2_with (go_at_call 71; refine HN.out.mono ?_; rintro e w' ⟨rfl, h3⟩)
    exact ⟨rfl, .inl ⟨HE.out, rfl, h3⟩⟩
theorem TabLo.far {B y q gc n : Nat} {LA : Option Addr} {S : Nat → Value} (h : TabLo B q gc LA S) (hy : y < B) : FarT y q n gc LA S :=
  ⟨by have := h.tab; omega, fun _ => by have := h.cod; omega, fun _ b o e => by have := h.len b o e; omega, fun j hj e => by have := h.row j hj y e; omega⟩
theorem TabLo.mono {B B' q gc : Nat} {LA : Option Addr} {S : Nat → Value} (h : TabLo B q gc LA S) (hb : B' ≤ B) : TabLo B' q gc LA S :=
  ⟨by have := h.tab; omega, by have := h.cod; omega, fun b o e => by have := h.len b o e; omega, fun j hj g e => by have := h.row j hj g e; omega⟩
set_option maxHeartbeats 1000000 in
theorem newCodes_c {p r : Nat} {a : Option Nat} (A D : Option Addr) (n m c d : Nat) (ls ds : List Int) (w : World) (hl : IRow w A n .i64 ls) (hd : IRow w D m .i64 ds) (hp : p < w.heap.size) (hr : r < w.heap.size) (ha : ∀ g, a = some g → g < w.heap.size) :
    Calls Tryd.prog 47 #[.slice A n c, .slice D m d] w fun e w' =>
      (∃ k, (k = errC ls ls.length ∧ errC ls ls.length ≠ 0 ∨ errC ls ls.length = 0 ∧ k = errC ds ds.length ∧ errC ds ds.length ≠ 0) ∧ e = .panicked [{ v := .iface 24 (.int .i64 k), recovered := false }] ∧ Below w.heap.size w w') ∨
      (errC ls ls.length = 0 ∧ errC ds ds.length = 0 ∧ ∃ q, e = .returned (.pointer (some ⟨q, 0, none⟩)) ∧ Cds w' p r a q ls ds ∧ Below w.heap.size w w') := by
  have h1 := newTable_c A n c ls w hl
  rw [← hl.len] at h1
  have HLN := Lib.hid hl.len
  have HDN := Lib.hid hd.len
  have H1 := Lib.hid h1
  have HD := Lib.hid hd
  rw [HLN.out] at H1
  have HA := Lib.hid ha
  rw [HLN.out, HDN.out]
  clear h1 hl hd ha
  go_enter Tryd.func47, Tryd.ntmps47
  go_wp2_with fail
  refine H1.out.mono ?_
  rintro e w1 (⟨g1, rfl, g2⟩ | ⟨g1, q1, gc, LA, lc, S, rfl, g2, g3, g4⟩)
  · have HG := Lib.hid g1
    clear g1
    go_wp2
    exact ⟨rfl, .inl ⟨_, .inl ⟨rfl, HG.out⟩, rfl, g2⟩⟩
  · have H2 := Lib.hid (newTable_c D m d ds w1 (HD.out.below g4))
    have HG := Lib.hid g1
    have HT := Lib.hid (And.intro g2 (And.intro g3 g4))
    clear g1 g2 g3 g4
    go_wp2_with fail
    refine H2.out.mono ?_
    rintro e w2 (⟨g1, rfl, g2⟩ | ⟨g1, q2, gc2, LA2, lc2, S2, rfl, g2, g3, g4⟩)
    · have HG2 := Lib.hid g1
      have HB := Lib.hid (HT.out.2.2.trans (g2.mono HT.out.2.2.size))
      clear g1 g2
      go_wp2
      exact ⟨rfl, .inl ⟨_, .inr ⟨HG.out, rfl, HG2.out⟩, rfl, HB.out⟩⟩
    · have HG2 := Lib.hid g1
      have HB := Lib.hid (HT.out.2.2.trans (g4.mono HT.out.2.2.size))
      have HT1 := Lib.hid (HT.out.1.below g4)
      have HL1 := Lib.hid HT.out.2.1
      have HT2 := Lib.hid g2
      have HL2 := Lib.hid (g3.mono HT.out.2.2.size)
      have hs1 := HT.out.2.2.size
      have hs2 := g4.size
      clear g1 g2 g3 g4
      go_wp2
      go_ret
      have hb : Below w2.heap.size w2 (w2.alloc (.cells #[.pointer (some ⟨q1, 0, none⟩), .pointer (some ⟨q2, 0, none⟩)] 78)) := (Below.refl _ _).alloc (Nat.le_refl _) _
      refine .inr ⟨HG.out, HG2.out, w2.heap.size, rfl, ⟨⟨q1, q2, Blk.new _ _ _, ⟨_, _, _, _, _, HT1.out.below hb, HL1.out.far hp, HL1.out.far hr, fun g e => HL1.out.far (HA.out g e)⟩, ⟨_, _, _, _, _, HT2.out.below hb, HL2.out.far hp, HL2.out.far hr, fun g e => HL2.out.far (HA.out g e)⟩⟩, by omega, by omega, fun e => by have := HA.out _ e; omega⟩, ?_⟩
      exact HB.out.alloc HB.out.size _
end Go.Proofs.YtbphbogolffanaaDoor
