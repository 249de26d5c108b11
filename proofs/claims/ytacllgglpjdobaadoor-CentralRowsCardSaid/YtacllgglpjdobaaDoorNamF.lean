/-
  THE CONTRACT OF name's Check. Strings of at most 1000000 bytes.
-/
import Derived.Test.YtacllgglpjdobaaDoorNamE
namespace Go.Proofs.YtacllgglpjdobaaDoor
open Go.RowKit Go.Shelf
set_option maxRecDepth 1000000
set_option linter.unusedVariables false
attribute [local go_sem] Oper.semAt_some

theorem SplitSeq_c (s : ByteArray) (w : World) :
    Calls Tryd.prog 39 #[.string s, .string ⟨#[47]⟩] w fun e w' => e = .returned (.func (.func 65) #[] #[.pointer (some ⟨w.heap.size + 1, 0, none⟩), .pointer (some ⟨w.heap.size, 0, none⟩), .pointer (some ⟨w.heap.size + 2, 0, none⟩)]) ∧
      w' = ((w.alloc (.cells #[.string s] 9)).alloc (.cells #[.string ⟨#[47]⟩] 9)).alloc (.cells #[.int .i64 0] 3) := by
  go_enter Tryd.func39, Tryd.ntmps39
  go_wp2
  go_ret
  exact ⟨rfl, rfl⟩
theorem OwnS.boxed {B b : Nat} {t : TypeId} {v : Value} {B' : Nat} (hne : B' ≠ b) : OwnS B b (fun _ W => Boxed W B' t v) := fun k W W' row hs hg hr =>
  hs.kept hg (fun e => by
    rcases hr B' e.symm with h | ⟨_, o, ho, hc⟩
    · exact hne h
    · rw [show W.heap[B']? = _ from hs] at ho
      injection ho with ho
      subst ho
      cases hc)
theorem OwnS.pure {B b : Nat} (p : Nat → Prop) : OwnS B b (fun k _ => p k) := fun _ _ _ _ hs _ _ => hs
theorem KeS.setLow {b m : Nat} {W : World} {B : Nat} (h : B < b) (v : Value) : KeS b m W (W.setCell ⟨B, 0, none⟩ v) := ⟨fun k h1 _ => Below.heap_setCell W _ v k (by show k ≠ B; omega), by show W.heap.size ≤ (W.heap.modify _ _).size; rw [Array.size_modify]; exact Nat.le_refl _⟩
theorem results_errno {fn : Func} (h : fn.results = #[.cell 2 32]) {tmps : Array Value} {w : World} {g : Nat} {z : Int} (h2 : tmps.getD 2 undef = .pointer (some ⟨g, 0, none⟩)) (hc : w.cell? ⟨g, 0, none⟩ = some (.int .i64 z)) :
    (results fn tmps).run Tryd.prog w = .ok (.int .i64 z) w := by
  have hu : Tryd.prog.underlying 32 = some (.int .i64) := by kernel_rfl
  simp only [results, h]
  simp at h2
  simp [Sem.run_bind, Result.andThen, h2, asAddr, loadVar, isAgg, run_underlying hu, hc]
/-- the k-th part -/
def pt (l : List UInt8) (k : Nat) : List UInt8 := (spl l).getD k []
set_option maxHeartbeats 8000000 in
theorem Check_in (l : List UInt8) (hl : l.length ≤ 1000000) (w : World) :
    CallsIn Fence.wide 6 Tryd.prog 22 #[.string (S l)] w fun e w' => e = .returned (.int .i64 (nokE l)) ∧ Below w.heap.size w w' := by
  have hsz : (S l).size = l.length := S_size l
  have HD := Lib.hid (dec_S l)
  have hnil : (S l).toList = l := toList_S2 l
  have HSEQ : Hid (∀ (B : Nat) (w : World), Boxed w B 9 (.string (S l)) → Boxed w (B + 1) 9 (.string ⟨#[47]⟩) → Boxed w (B + 2) 3 (.int .i64 0) →
      SeqS Fence.wide 5 Tryd.prog 65 #[.pointer (some ⟨B + 1, 0, none⟩), .pointer (some ⟨B, 0, none⟩), .pointer (some ⟨B + 2, 0, none⟩)] (fun k => #[.string (S (pt l k))]) (spl l).length B 3 w) := fun B w c0 c1 c2 => split_seq 5 (by omega) B l hl w c0 c1 c2
  obtain ⟨z, hz⟩ : ∃ z, z = nokE l := ⟨_, rfl⟩
  rw [← hz]
  have HZ := Lib.hid hz
  generalize S l = s at *
  obtain ⟨L, hL⟩ : ∃ L, L = l.length := ⟨_, rfl⟩
  rw [← hL] at hl hsz
  have HL := Lib.hid hL
  clear hL hz
  refine callsIn_of_wp_marks Tryd.func22 rfl trivial ?_ rfl
  simp only [Tryd.ntmps22, List.size_toArray, List.length_cons, List.length_nil, Nat.reduceAdd, Nat.reduceSub, Array.replicate_succ, Array.replicate_zero, List.push_toArray, List.append_toArray, List.nil_append, List.cons_append]
  by_cases h1 : l = []
  · have hzz : Hid (z = 40) := by unfold Hid; rw [HZ.out, h1]; rfl
    have hq : (l == []) = true := by rw [h1]; rfl
    clear h1
    gi_wp2
    refine ⟨_, results_errno rfl rfl (Boxed.new w 32 (.int .i64 40)).cell, ?_⟩
    rw [hzz.out]
    exact ⟨rfl, (Below.refl _ _).alloc (Nat.le_refl _) _⟩
  have hq : (l == []) = false := by rw [beq_eq_false_iff_ne]; exact h1
  by_cases h2 : 255 < L
  · have hzz : Hid (z = 40) := by unfold Hid; rw [HZ.out]; exact nokE_no (nok_no_len (.inr (by rw [← HL.out]; exact h2)))
    clear h1
    gi_wp2
    refine ⟨_, results_errno rfl rfl (Boxed.new w 32 (.int .i64 40)).cell, ?_⟩
    rw [hzz.out]
    exact ⟨rfl, (Below.refl _ _).alloc (Nat.le_refl _) _⟩
  have hL1 : Hid (1 ≤ L) := by unfold Hid; rw [HL.out]; exact List.length_pos_iff.2 h1
  clear h1
  gi_wp2
  have HBR := Lib.hid (Boxed.new w 32 (.int .i64 0))
  have HB1 : Hid (Below w.heap.size w (w.alloc (.cells #[.int .i64 0] 32))) := (Below.refl _ _).alloc (Nat.le_refl _) _
  have hs1 : (w.alloc (.cells #[.int .i64 0] 32)).heap.size = w.heap.size + 1 := World.size_alloc _ _
  obtain ⟨W1, hW1⟩ : ∃ W1, w.alloc (.cells #[.int .i64 0] 32) = W1 := ⟨_, rfl⟩
  rw [hW1] at HBR HB1 hs1 ⊢
  rw [← hs1]
  have HS1 := Lib.hid hs1
  clear hW1 hs1
  gi_loopw [4] (fun _ wr => ∃ pos : Nat, wr = W1.iter s pos ∧ Hid (oks l = oks (l.drop pos))) (fun _ wr => s.size - wr.iterPos W1.heap.size)
  case atStart => exact ⟨0, rfl, by rw [List.drop_zero]; exact rfl⟩
  case round =>
    obtain ⟨pos, rfl, hok⟩ := hrel
    by_cases hp : pos < s.size
    · have hnx : ∀ ty, (Instr.next (.pointer (some ⟨W1.heap.size, 0, none⟩)) true ty).run Tryd.prog (W1.iter s pos) = _ := fun ty => run_next_any W1 s pos ty hp
      have hpl : pos < l.length := by rw [← HL.out, ← hsz]; exact hp
      have hne : l.drop pos ≠ [] := by
        intro e
        have := congrArg List.length e
        rw [List.length_drop, List.length_nil] at this
        omega
      have hps := stp_pos _ hne
      have hbd : Hid (okc (dec (l.drop pos)).1 = false → z = 40) := fun h => by rw [HZ.out]; exact nokE_no (nok_no_oks (oks_bad hpl hok.out h))
      have hgd : Hid (okc (dec (l.drop pos)).1 = true → oks l = oks (l.drop (pos + (dec (l.drop pos)).2))) := fun h => (oks_good hpl hok.out h).1
      have hc2 : (dec (l.drop pos)).1 ≤ 2000000 := by omega
      have hk1 : 1 ≤ (dec (l.drop pos)).2 := hps.1
      rw [HD.out pos] at hnx
      generalize (dec (l.drop pos)).1 = c at *
      generalize (dec (l.drop pos)).2 = k at *
      have HRC := Lib.hid (fun W => rune_c c hc2 W)
      have HBI := Lib.hid (HBR.out.alloc (.stringIter s (pos + k)))
      have f1 : (W1.iter s (pos + k)).cell? ⟨w.heap.size, 0, none⟩ = some (.int .i64 0) := HBI.out.cell
      have f2 : (W1.iter s (pos + k)).frozen? ⟨w.heap.size, 0, none⟩ = false := HBI.out.frozen
      have HBI2 : Hid (Below w.heap.size w (W1.iter s (pos + k))) := HB1.out.trans ((Below.iter W1 s _).mono HB1.out.size)
      clear hne hps hpl hok
      cases hb : okc c with
      | true =>
        have hg2 := Lib.hid (hgd.out hb)
        rw [hb] at HRC
        clear hb hbd hgd
        gi_wp2_with (refine ⟨trivial, ?_⟩; gi_at_call 38; refine (callsIn_wide.2 (HRC.out _)).mono ?_; rintro e w' ⟨rfl, rfl⟩)
        go_roundw
        case rel => exact ⟨pos + k, rfl, hg2⟩
        case measure =>
          simp
          omega
      | false =>
        have hz40 := Lib.hid (hbd.out hb)
        rw [hb] at HRC
        clear hb hbd hgd
        gi_wp2_with (refine ⟨trivial, ?_⟩; gi_at_call 38; refine (callsIn_wide.2 (HRC.out _)).mono ?_; rintro e w' ⟨rfl, rfl⟩)
        refine ⟨_, results_errno rfl rfl (HBI.out.set (.int .i64 40)).cell, ?_⟩
        rw [hz40.out]
        exact ⟨rfl, HBI2.out.setCell (p := ⟨w.heap.size, 0, none⟩) (Nat.le_refl _) _⟩
    · have hnx : ∀ ty, (Instr.next (.pointer (some ⟨W1.heap.size, 0, none⟩)) true ty).run Tryd.prog (W1.iter s pos) = _ := fun ty => run_next_end W1 s pos ty hp
      have HK : Hid (oks l = true) := by
        unfold Hid
        rw [hok.out, List.drop_of_length_le (by rw [← HL.out, ← hsz]; omega)]
        rfl
      clear hok
      have hs2 : (W1.iter s pos).heap.size = w.heap.size + 2 := by
        show (W1.alloc _).heap.size = _
        rw [World.size_alloc, HS1.out]
      have HS2 := Lib.hid hs2
      clear hs2
      have HBI : Hid (Boxed (W1.iter s pos) w.heap.size 32 (.int .i64 0)) := HBR.out.alloc (.stringIter s pos)
      have HBI2 : Hid (Below w.heap.size w (W1.iter s pos)) := HB1.out.trans ((Below.iter W1 s _).mono HB1.out.size)
      gi_wp2_with (refine ⟨trivial, ?_⟩; gi_at_call 39; refine (callsIn_wide.2 (SplitSeq_c _ _)).mono ?_; rintro e w' ⟨rfl, rfl⟩)
      clear hnx
      obtain ⟨W2, hW2⟩ : ∃ W2, W1.iter s pos = W2 := ⟨_, rfl⟩
      rw [hW2] at HS2 HBI HBI2 ⊢
      have c0 := ((Boxed.new W2 9 (.string s)).alloc (.cells #[.string ⟨#[47]⟩] 9)).alloc (.cells #[.int .i64 0] 3)
      have c1 := (Boxed.new (W2.alloc (.cells #[.string s] 9)) 9 (.string ⟨#[47]⟩)).alloc (.cells #[.int .i64 0] 3)
      have c2 := Boxed.new ((W2.alloc (.cells #[.string s] 9)).alloc (.cells #[.string ⟨#[47]⟩] 9)) 3 (.int .i64 0)
      have r0 := ((HBI.out.alloc (.cells #[.string s] 9)).alloc (.cells #[.string ⟨#[47]⟩] 9)).alloc (.cells #[.int .i64 0] 3)
      have hbel : Below w.heap.size w (((W2.alloc (.cells #[.string s] 9)).alloc (.cells #[.string ⟨#[47]⟩] 9)).alloc (.cells #[.int .i64 0] 3)) :=
        ((HBI2.out.alloc HBI2.out.size _).alloc (by simp; have := HBI2.out.size; omega) _).alloc (by simp; have := HBI2.out.size; omega) _
      rw [World.size_alloc] at c1
      rw [World.size_alloc, World.size_alloc] at c2
      have hsz3 : (((W2.alloc (.cells #[.string s] 9)).alloc (.cells #[.string ⟨#[47]⟩] 9)).alloc (.cells #[.int .i64 0] 3)).heap.size = W2.heap.size + 3 := by simp
      obtain ⟨W3, hW3⟩ : ∃ W3, ((W2.alloc (.cells #[.string s] 9)).alloc (.cells #[.string ⟨#[47]⟩] 9)).alloc (.cells #[.int .i64 0] 3) = W3 := ⟨_, rfl⟩
      rw [hW3] at c0 c1 c2 r0 hbel hsz3 ⊢
      have hB := HS2.out
      obtain ⟨B, hBd⟩ : ∃ B, B = W2.heap.size := ⟨_, rfl⟩
      rw [← hBd] at c0 c1 c2 hsz3 hB ⊢
      have hs := HSEQ.out B W3 c0 c1 c2
      obtain ⟨R, hR⟩ : ∃ R, R = w.heap.size := ⟨_, rfl⟩
      rw [← hR] at r0 hbel hB ⊢
      have HR := Lib.hid hR
      have HBE := Lib.hid hB
      have hRB : R < B := by omega
      have hB3 : B + 3 ≤ W3.heap.size := by omega
      have HS3 := Lib.hid hsz3
      clear hB hsz3 c0 c1 c2 hW3 hBd hW2 HBI HBI2 HS2 hR
      refine range_s rfl (by omega) (gf := 65) (lb := #[.pointer (some ⟨B + 1, 0, none⟩), .pointer (some ⟨B, 0, none⟩), .pointer (some ⟨B + 2, 0, none⟩)]) rfl trivial (enters_of Tryd.func65 (by kernel_rfl) rfl)
        (b := B) (m := 3) (by omega) (by omega) hs (fun _ => rfl)
        (fun k W => (Boxed W R 32 (.int .i64 0) ∧ Below R w W) ∧ ∀ j, j < k → okp (pt l j) = true)
        (fun k W => (Boxed W R 32 (.int .i64 40) ∧ Below R w W) ∧ okp (pt l k) = false)
        (((OwnS.boxed (by omega)).and (OwnS.below (by rw [HR.out]; exact Nat.le_refl _) (by omega) (by omega))).and (OwnS.pure _))
        (((OwnS.boxed (by omega)).and (OwnS.below (by rw [HR.out]; exact Nat.le_refl _) (by omega) (by omega))).and (OwnS.pure _))
        ⟨⟨r0, hbel⟩, fun j hj => by omega⟩
        (fun k => { tmps := #[Value.string s, undef, Value.pointer (some { block := R, off := 0 }), undef, u4, .string (S (pt l k)),
          Value.string s, Value.bool false, Value.bool false, Value.string s, Value.int IntKind.i64 L,
          Value.bool (decide (255 < (L : Int))), Value.bool (decide (255 < (L : Int))), Value.string s,
          Value.pointer (some { block := W1.heap.size, off := 0 }), Value.tuple #[Value.bool false], Value.bool false,
          u17, u18, u19, u20, Value.string s,
          Value.func (Fn.func 65) #[] #[.pointer (some ⟨B + 1, 0, none⟩), .pointer (some ⟨B, 0, none⟩), .pointer (some ⟨B + 2, 0, none⟩)],
          .string (S (pt l k)), undef, undef, undef, undef, undef, undef, undef, undef, undef, undef], defers := [] }) ?assign ?body ?done ?stop
      case assign =>
        intro ll x W K hK
        gi_wp2
        exact hK
      case body =>
        rintro ll k W hkN ⟨⟨b0, hb⟩, hall⟩
        have htl := toList_S2 (pt l k)
        have x0 := b0.cell
        have x1 := b0.frozen
        have HX := Lib.hid b0
        have HB := Lib.hid hb
        have HALL := Lib.hid hall
        have HN : Hid (okp (pt l k) = true → ∀ j, j < k + 1 → okp (pt l j) = true) := fun h j hj => by
          rcases Nat.lt_or_ge j k with h3 | h3
          · exact HALL.out j h3
          · obtain rfl : j = k := by omega
            exact h
        clear b0 hb hall
        have HIX : Hid (okp (pt l k) = false → KeepsFrom W3.heap.size W (W.setCell ⟨R, 0, none⟩ (.int .i64 40)) ∧ (Boxed (W.setCell ⟨R, 0, none⟩ (.int .i64 40)) R 32 (.int .i64 40) ∧ Below R w (W.setCell ⟨R, 0, none⟩ (.int .i64 40))) ∧ okp (pt l k) = false) := fun h =>
          ⟨(KeepsOthers.setCell W _ _).from _, ⟨HX.out.set _, HB.out.setCell (p := ⟨R, 0, none⟩) (Nat.le_refl _) _⟩, h⟩
        have HI : Hid (okp (pt l k) = true → KeepsFrom W3.heap.size W W ∧ KeS B 3 W W ∧ (Boxed W R 32 (.int .i64 0) ∧ Below R w W) ∧ ∀ j, j < k + 1 → okp (pt l j) = true) := fun h =>
          ⟨KeepsFrom.refl _ _, KeS.refl _ _ _, ⟨HX.out, HB.out⟩, HN.out h⟩
        generalize S (pt l k) = pv at *
        by_cases p0 : pt l k = []
        · have hz := Lib.hid (HIX.out (by rw [p0]; rfl))
          clear HI HIX HN
          gi_wp2
          exact hz.out
        · by_cases p1 : pt l k = [46]
          · have hz := Lib.hid (HIX.out (by rw [p1]; decide))
            clear HI HIX HN p0
            gi_wp2
            exact hz.out
          · by_cases p2 : pt l k = [46, 46]
            · have hz := Lib.hid (HIX.out (by rw [p2]; decide))
              clear HI HIX HN p0 p1
              gi_wp2
              exact hz.out
            · have hnx := Lib.hid (HI.out (decide_eq_true ⟨p0, p1, p2⟩))
              have q0 : (pt l k == []) = false := by rw [beq_eq_false_iff_ne]; exact p0
              have q1 : (pt l k == [46]) = false := by rw [beq_eq_false_iff_ne]; exact p1
              have q2 : (pt l k == [46, 46]) = false := by rw [beq_eq_false_iff_ne]; exact p2
              clear HI HIX p0 p1 p2 HN
              gi_wp2
              exact hnx.out
      case done =>
        rintro D W hD ⟨⟨b0, hb⟩, hall⟩ hK
        have x0 := b0.cell
        have x1 := b0.frozen
        have HX := Lib.hid b0
        have HB := Lib.hid hb
        have HK2 := Lib.hid hK
        have hz0 : Hid (z = 0) := by
          unfold Hid
          rw [HZ.out]
          exact nokE_ok (nok_yes (by rw [← HL.out]; exact hL1.out) (by rw [← HL.out]; omega) HK.out fun k hk => hall k hk)
        clear b0 hb hall hK
        gi_wp2
        have hk3 : (W.setCell ⟨R, 0, none⟩ (.int .i64 0)).heap[D]? = some (.deferred (some [])) := (KeepsOthers.setCell W _ _).same D _ HK2.out rfl
        have hb3 : Below R w (W.setCell ⟨R, 0, none⟩ (.int .i64 0)) := HB.out.setCell (p := ⟨R, 0, none⟩) (Nat.le_refl _) _
        have hx3 := HX.out.set (.int .i64 0)
        have hDR : R ≤ D := by omega
        refine ⟨by simp, .inl ⟨_, _, rfl, run_takeDeferred hk3, ?_⟩⟩
        refine ⟨_, results_errno rfl rfl (hx3.kept (grownBy_putObj' _ D (.deferred none)) (fun e => by cases e; omega)).cell, ?_⟩
        rw [hz0.out, ← HR.out]
        exact ⟨rfl, hb3.grown (grownBy_putObj' _ D (.deferred none)) (by have h5 := hb3.size; have h6 : R = w.heap.size := HR.out; omega) (fun k e => by cases e; exact hDR)⟩
      case stop =>
        rintro D k W hD hkN ⟨⟨b0, hb⟩, hbad⟩ hK
        have hz40 : Hid (z = 40) := by unfold Hid; rw [HZ.out]; exact nokE_no (nok_no_part hkN hbad)
        gi_wp2
        have hDR : R ≤ D := by omega
        refine ⟨by simp, .inl ⟨_, _, rfl, run_takeDeferred hK, ?_⟩⟩
        refine ⟨_, results_errno rfl rfl (b0.kept (grownBy_putObj' _ D (.deferred none)) (fun e => by cases e; omega)).cell, ?_⟩
        rw [hz40.out, ← HR.out]
        exact ⟨rfl, hb.grown (grownBy_putObj' _ D (.deferred none)) (by have h5 := hb.size; have h6 : R = w.heap.size := HR.out; omega) (fun k e => by cases e; exact hDR)⟩
theorem Check_c (l : List UInt8) (hl : l.length ≤ 1000000) (w : World) :
    Calls Tryd.prog 22 #[.string (S l)] w fun e w' => e = .returned (.int .i64 (nokE l)) ∧ Below w.heap.size w w' := callsIn_wide.1 (Check_in l hl w)
end Go.Proofs.YtacllgglpjdobaaDoor
