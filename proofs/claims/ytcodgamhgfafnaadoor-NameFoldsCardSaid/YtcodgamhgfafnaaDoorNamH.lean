/-
  THE CONTRACT OF name's Parts. Strings of at most 1000000 bytes. (WRITTEN by wip/gen16h.py.)
-/
import Derived.Test.YtcodgamhgfafnaaDoorNamG
import Derived.Maps.AppendAt
import Derived.Deep.AppendLies
namespace Go.Proofs.YtcodgamhgfafnaaDoor
open Go.RowKit Go.Shelf
set_option maxRecDepth 1000000
set_option linter.unusedVariables false
attribute [local go_sem] Oper.semAt_some

/-- what Parts answers -/
def ptsF (l : List UInt8) : List (List UInt8) := if nok l = true then spl l else []
theorem strs_one (L : List (List UInt8)) : ∀ u ∈ strs L, u.oneCell' = true := by
  intro u hu
  simp only [strs, List.mem_map] at hu
  obtain ⟨p, _, rfl⟩ := hu
  rfl
theorem one_cellD (w : World) (v : Value) (t : TypeId) : ∀ j u, [v][j]? = some u → (w.alloc (.cells #[v] t)).cell? ((⟨w.heap.size, 0, none⟩ : Addr).add j) = some u := by
  intro j u hu
  have hj : j = 0 := by
    have := (List.getElem?_eq_some_iff.1 hu).1
    simpa using this
  subst hj
  simp at hu
  subst hu
  exact (Boxed.new w t v).cell
theorem one_cellD2 (w : World) (v : Value) (t : TypeId) : ∀ j u, [v][j]? = some u → ((w.alloc (.cells #[v] t)).drew).cell? ((⟨w.heap.size, 0, none⟩ : Addr).add j) = some u := one_cellD w v t
theorem stepIn_append_lies' {F : Fence} {m : Nat} {P : Program} {w : World} {ops : Array Oper} {o : Oper} {a : Act} {K : Act → World → Prop} {Q : Exit → Act → World → Prop} {E : Prop} (hgd : o.guard = none) (s x : Operand) (t : TypeId)
    (ho : o.op = .call { callee := .builtin .append, args := #[s, x], argTypes := #[t, t] })
    (base : Nat) (e : TypeId) (i : TypeInfo) (z : Value) (size bytes : Nat) (ht : P.underlying t = some (.slice e)) (hi : P.info? e = some i) (hz : i.zero = some z)
    (hsize : i.size = size) (hby : i.bytes = bytes) (hzs : z.cells.size = size) (hsz : 0 < size)
    (v : Value) (n : Nat) (xs : List Value) (hs : a.eval s = v) (hown : w.ownsRow base e size v n xs)
    (ad : Addr) (k c : Nat) (news : List Value) (hx : a.eval x = .slice (some ad) k c) (hl : news.length = k * size) (hnews : ∀ j u, news[j]? = some u → w.cell? (ad.add j) = some u) (h1 : ∀ u ∈ news, u.oneCell' = true)
    (hk : 0 < k) (h63 : n + k ≤ maxLen) (hbytes : (n + k) * bytes ≤ 140737488355328) (hbase : base ≤ w.heap.size) (H : Nat) (hH : w.heap.size = H)
    (h : ∀ g cap w', w'.ownsRow base e size (.slice (some ⟨g, 0, none⟩) (n + k) cap) (n + k) (xs ++ news) → w.grownBy w' v.ownBlock → (v.ownBlock = some g ∨ g = H) → g < w'.heap.size → K (a.put o.dst (.slice (some ⟨g, 0, none⟩) (n + k) cap)) w') :
    if Region.wanted o (yielded ops a.tmps) = true then Oper.wpIn F m P o a w K Q else E := by
  have hw : Region.wanted o (yielded ops a.tmps) = true := by simp [Region.wanted, hgd]
  rw [if_pos hw]
  obtain ⟨g, cap, w', hrun, r1, r2, r3, r4⟩ := run_append_lies (P := P) (w := w) t o.type base e i z size bytes ht hi hz hsize hby hzs hsz v n xs hown ad k c news hl hnews h1 hk h63 hbytes hbase H hH
  unfold Oper.wpIn
  refine ⟨?_, ?_⟩
  · simp [Oper.about, ho, resolve, Target.leads, Sem.run_pure]
  · rw [Oper.semAt_plain F _ _ (by rw [ho]; intro c hc'; cases hc')]
    simp [execOp, ho, resolve, invoke, builtin, hs, hx, hrun, Result.andThen]
    exact h g cap w' r1 r2 r3 r4
theorem OwnS.size {B b n : Nat} : OwnS B b (fun _ W => n ≤ W.heap.size) := fun _ _ _ _ hs hg _ => Nat.le_trans hs hg.size
theorem OwnS.row {B b n₀ R : Nat} {t e : TypeId} (f : Nat → List Value) (G : Nat → Value → Prop) (hR : R ≠ b) (hb : b < n₀) : OwnS B b (fun k W => ∃ v, Boxed W R t v ∧ W.ownsRow n₀ e 1 v k (f k) ∧ G k v) := by
  rintro k X Y row ⟨v, hv, hr, hG⟩ hg hrow
  refine ⟨v, hv.kept hg (fun e' => ?_), hr.kept hg ?_, hG⟩
  · rcases hrow R e'.symm with h | ⟨_, o, ho, hc⟩
    · exact hR h
    · rw [show X.heap[R]? = _ from hv] at ho; injection ho with ho; subst ho; cases hc
  · rcases hr.2 with ⟨rfl, _⟩ | ⟨g, cap, cur, rfl, hng, hgb, _⟩
    · exact .inl rfl
    · refine .inr fun e' => ?_
      have e2 : row = some g := by
        have e3 : some g = row := by simpa [Value.ownBlock] using e'
        exact e3.symm
      rcases hrow g e2 with h | ⟨_, o, ho, hc⟩
      · omega
      · rw [hgb] at ho; injection ho with ho; subst ho; cases hc
theorem own_baseV {w : World} {b b' n : Nat} {e : TypeId} {v : Value} {xs : List Value} (h : w.ownsRow b e 1 v n xs) (hb : b' ≤ b) : w.ownsRow b' e 1 v n xs := by
  refine ⟨h.1, ?_⟩
  rcases h.2 with h2 | ⟨g, cap, cur, e1, h3, h4⟩
  · exact .inl h2
  · exact .inr ⟨g, cap, cur, e1, Nat.le_trans hb h3, h4⟩
/-- all that a round of the loop owes, behind the call of Clone (in W') and the append -/
theorem parts_leaf {w W W' w5 : World} {B R k : Nat} {v : Value} {P : List Value} {x : Value} {g5 c5 : Nat} {tmp : Obj} (hR : R < B) (hW3 : B + 3 ≤ W.heap.size) (hb0 : Below W.heap.size W W') (hw : Below R w W) (hv : Boxed W R 24 v) (hrow : W.ownsRow (B + 3) 9 1 v k P)
    (hown : w5.ownsRow (B + 3) 9 1 (.slice (some ⟨g5, 0, none⟩) (k + 1) c5) (k + 1) (P ++ [x])) (hg : (W'.alloc tmp).grownBy w5 v.ownBlock) (hs : R ≤ w.heap.size) :
    Boxed w5 R 24 v ∧ (KeepsFrom (B + 3) W (w5.setCell ⟨R, 0, none⟩ (.slice (some ⟨g5, 0, none⟩) (k + 1) c5)) ∧ KeS B 3 W (w5.setCell ⟨R, 0, none⟩ (.slice (some ⟨g5, 0, none⟩) (k + 1) c5)) ∧
      (Boxed (w5.setCell ⟨R, 0, none⟩ (.slice (some ⟨g5, 0, none⟩) (k + 1) c5)) R 24 (.slice (some ⟨g5, 0, none⟩) (k + 1) c5) ∧ (w5.setCell ⟨R, 0, none⟩ (.slice (some ⟨g5, 0, none⟩) (k + 1) c5)).ownsRow (B + 3) 9 1 (.slice (some ⟨g5, 0, none⟩) (k + 1) c5) (k + 1) (P ++ [x])) ∧ Below R w (w5.setCell ⟨R, 0, none⟩ (.slice (some ⟨g5, 0, none⟩) (k + 1) c5))) := by
  have hv' : Boxed W' R 24 v := (hb0.block R (by omega)).trans hv
  have hrow' := own_below hrow hb0
  obtain ⟨h1, h2, h3, h4, h5⟩ := Boxed.appended (W := W') (n₀ := R) hv' (by decide) (own_base hrow' (by omega)) (by have := hb0.size; omega) (Nat.le_refl _) (own_base hown (by omega)) hg
  have hown' : (w5.setCell ⟨R, 0, none⟩ (.slice (some ⟨g5, 0, none⟩) (k + 1) c5)).ownsRow (B + 3) 9 1 (.slice (some ⟨g5, 0, none⟩) (k + 1) c5) (k + 1) (P ++ [x]) := hown.kept (grownBy_setCell' w5 R _) (.inr fun e => by
    have h7 : g5 = R := by simpa [Value.ownBlock] using e
    have := (hown.lt g5 rfl).1
    omega)
  refine ⟨h1, ?_, ?_, ⟨h2, hown'⟩, ?_⟩
  · refine ⟨Nat.le_trans hb0.size h4.size, fun j o hj hk ho => h4.same j o ((hb0.block j (Array.getElem?_eq_some_iff.1 hk).1).trans hk) ho⟩
  · refine ⟨fun j j1 j2 => ?_, Nat.le_trans hb0.size h4.size⟩
    rw [Below.heap_setCell w5 _ _ j (by show j ≠ R; omega)]
    have hsz := hb0.size
    rw [hg.block j (by simp; omega) (fun e => by
      rcases hrow'.2 with ⟨rfl, _⟩ | ⟨g, cap, cur, rfl, hng, _⟩
      · simp [Value.ownBlock] at e
      · have : j = g := by simpa [Value.ownBlock] using e
        omega), Below.heap_alloc _ _ _ (by omega)]
    exact hb0.block j (by omega)
  · exact (hw.trans (hb0.mono (by omega))).trans h5

set_option maxHeartbeats 8000000 in
theorem Parts_in (l : List UInt8) (hl : l.length ≤ 1000000) (w : World) :
    CallsIn Fence.wide 6 Tryd.prog 13 #[.string (S l)] w fun e w' => ∃ v n, e = .returned v ∧ w'.ownsRow w.heap.size 9 1 v n (strs (ptsF l)) ∧ Below w.heap.size w w' := by
  obtain ⟨i0, hi, hz0, hz1, hz2⟩ := info_parts info_str
  have HCK := Lib.hid (Check_c l hl w)
  have HCL : Hid (∀ k W, Calls Tryd.prog 24 #[.string (S (pt l k))] W fun e w' => e = .returned (.string (S (pt l k))) ∧ Below W.heap.size W w') := fun k W => Clone_s _ W (by
    rw [S_size]
    have hm : ∀ p ∈ spl l, p.length ≤ l.length := by
      intro p hp
      have key : ∀ (l : List UInt8), ∀ p ∈ spl l, p.length ≤ l.length := by
        intro l
        induction l with
        | nil => intro p hp; simp [spl] at hp; subst hp; exact Nat.le_refl _
        | cons x r ih =>
          intro p hp
          by_cases h : x = 47
          · subst h
            simp only [spl, if_true, List.mem_cons] at hp
            rcases hp with rfl | hp
            · simp
            · have := ih p hp; rw [List.length_cons]; omega
          · obtain ⟨a, q, h1, h2⟩ := spl_cons h r
            rw [h2, List.mem_cons] at hp
            rcases hp with rfl | hp
            · have := ih a (by rw [h1]; simp); rw [List.length_cons, List.length_cons]; omega
            · have := ih p (by rw [h1]; simp [hp]); rw [List.length_cons]; omega
      exact key l p hp
    unfold pt
    rcases Nat.lt_or_ge k (spl l).length with hk | hk
    · rw [List.getD_eq_getElem?_getD, List.getElem?_eq_getElem hk]
      have := hm _ (List.getElem_mem hk)
      simp only [Option.getD_some]
      omega
    · rw [List.getD_eq_getElem?_getD, List.getElem?_eq_none hk]
      simp)
  have HSEQ : Hid (∀ (B : Nat) (w : World), Boxed w B 9 (.string (S l)) → Boxed w (B + 1) 9 (.string ⟨#[47]⟩) → Boxed w (B + 2) 3 (.int .i64 0) →
      SeqS Fence.wide 5 Tryd.prog 29 #[.pointer (some ⟨B + 1, 0, none⟩), .pointer (some ⟨B, 0, none⟩), .pointer (some ⟨B + 2, 0, none⟩)] (fun k => #[.string (S (pt l k))]) (spl l).length B 3 w) := fun B w c0 c1 c2 => split_seq 5 (by omega) B l hl w c0 c1 c2
  have HNL := Lib.hid (spl_len l)
  have HPT : Hid (∀ k, k < (spl l).length → strs ((spl l).take (k + 1)) = strs ((spl l).take k) ++ [.string (S (pt l k))]) := fun k hk => by
    rw [← strs_snoc, List.take_succ_eq_append_getElem hk]
    unfold pt
    rw [List.getD_eq_getElem?_getD, List.getElem?_eq_getElem hk]
    rfl
  generalize S l = s at *
  refine callsIn_of_wp_marks Tryd.func13 rfl trivial ?_ rfl
  simp only [Tryd.ntmps13, List.size_toArray, List.length_cons, List.length_nil, Nat.reduceAdd, Nat.reduceSub, Array.replicate_succ, Array.replicate_zero, List.push_toArray, List.append_toArray, List.nil_append, List.cons_append]
  cases hnk : nok l with
  | false =>
    have hz := nokE_no hnk
    have hp : Hid (ptsF l = []) := if_neg (by rw [hnk]; decide)
    rw [hz] at HCK
    clear hz hnk
    gi_wp2_with (refine ⟨trivial, ?_⟩; gi_at_call 11; refine (callsIn_wide.2 HCK.out).mono ?_; rintro e w1 ⟨rfl, hb1⟩)
    refine ⟨_, results_tmp rfl _ _ _, _, 0, rfl, ?_, hb1⟩
    rw [hp.out]
    exact World.ownsRow_nil _ _ _ _
  | true =>
    have hz := nokE_ok hnk
    have hp : Hid (ptsF l = spl l) := if_pos hnk
    rw [hz] at HCK
    clear hz hnk
    gi_wp2_with (refine ⟨trivial, ?_⟩; gi_at_call 11; refine (callsIn_wide.2 HCK.out).mono ?_; rintro e w1 ⟨rfl, hb1⟩)
    have HB1 := Lib.hid hb1
    have HBX : Hid (Boxed (w1.alloc (.cells #[.slice none 0 0] 24)) w1.heap.size 24 (.slice none 0 0)) := Boxed.new w1 24 (.slice none 0 0)
    have HB2 : Hid (Below w.heap.size w (w1.alloc (.cells #[.slice none 0 0] 24))) := hb1.alloc hb1.size _
    have hs1 : w.heap.size ≤ w1.heap.size := hb1.size
    have hs2 : (w1.alloc (.cells #[.slice none 0 0] 24)).heap.size = w1.heap.size + 1 := World.size_alloc _ _
    obtain ⟨R, hR⟩ : ∃ R, R = w1.heap.size := ⟨_, rfl⟩
    obtain ⟨W2, hW2⟩ : ∃ W2, w1.alloc (.cells #[.slice none 0 0] 24) = W2 := ⟨_, rfl⟩
    rw [hW2] at HBX HB2 hs2
    rw [← hR] at HBX hs1 hs2
    have HS2 := Lib.hid hs2
    have HS1 := Lib.hid hs1
    clear hb1 hs2 hs1
    gi_wp2_with (refine ⟨trivial, ?_⟩; gi_at_call 23; refine (callsIn_wide.2 (SplitSeq_c _ _)).mono ?_; rintro e w' ⟨rfl, rfl⟩)
    rw [← hR]
    have c0 := ((Boxed.new W2 9 (.string s)).alloc (.cells #[.string ⟨#[47]⟩] 9)).alloc (.cells #[.int .i64 0] 3)
    have c1 := (Boxed.new (W2.alloc (.cells #[.string s] 9)) 9 (.string ⟨#[47]⟩)).alloc (.cells #[.int .i64 0] 3)
    have c2 := Boxed.new ((W2.alloc (.cells #[.string s] 9)).alloc (.cells #[.string ⟨#[47]⟩] 9)) 3 (.int .i64 0)
    have r0 := ((HBX.out.alloc (.cells #[.string s] 9)).alloc (.cells #[.string ⟨#[47]⟩] 9)).alloc (.cells #[.int .i64 0] 3)
    have hb12 : Below R w1 W2 := by rw [← hW2]; exact (Below.refl _ _).alloc (by rw [hR]; exact Nat.le_refl _) _
    have hbel : Below R w1 (((W2.alloc (.cells #[.string s] 9)).alloc (.cells #[.string ⟨#[47]⟩] 9)).alloc (.cells #[.int .i64 0] 3)) :=
      ((hb12.alloc (by have := HS2.out; omega) _).alloc (by simp; have := HS2.out; omega) _).alloc (by simp; have := HS2.out; omega) _
    rw [World.size_alloc] at c1
    rw [World.size_alloc, World.size_alloc] at c2
    have hsz3 : (((W2.alloc (.cells #[.string s] 9)).alloc (.cells #[.string ⟨#[47]⟩] 9)).alloc (.cells #[.int .i64 0] 3)).heap.size = W2.heap.size + 3 := by simp
    obtain ⟨W3, hW3⟩ : ∃ W3, ((W2.alloc (.cells #[.string s] 9)).alloc (.cells #[.string ⟨#[47]⟩] 9)).alloc (.cells #[.int .i64 0] 3) = W3 := ⟨_, rfl⟩
    rw [hW3] at c0 c1 c2 r0 hbel hsz3 ⊢
    have hB := HS2.out
    obtain ⟨B, hBd⟩ : ∃ B, B = W2.heap.size := ⟨_, rfl⟩
    rw [← hBd] at c0 c1 c2 hsz3 hB ⊢
    have hs := HSEQ.out B W3 c0 c1 c2
    have HR := Lib.hid hR
    have hRB : R < B := by omega
    have hB3 : B + 3 ≤ W3.heap.size := by omega
    have HS3 := Lib.hid hsz3
    clear c0 c1 c2 hW3 hBd hW2 HBX HB2 HS2 hR hB hsz3 hb12
    refine range_s rfl (by omega) (gf := 29) (lb := #[.pointer (some ⟨B + 1, 0, none⟩), .pointer (some ⟨B, 0, none⟩), .pointer (some ⟨B + 2, 0, none⟩)]) rfl trivial (enters_of Tryd.func29 (by kernel_rfl) rfl)
      (b := B) (m := 3) (by omega) (by omega) hs (fun _ => rfl)
      (fun k W => (∃ v, Boxed W R 24 v ∧ W.ownsRow (B + 3) 9 1 v k (strs ((spl l).take k)) ∧ True) ∧ Below R w1 W ∧ B + 3 ≤ W.heap.size)
      (fun _ _ => False)
      ((OwnS.row (fun k => strs ((spl l).take k)) (fun _ _ => True) (by omega) (by omega)).and ((OwnS.below (by rw [HR.out]; exact Nat.le_refl _) (by omega) (by omega)).and OwnS.size))
      (fun _ _ _ _ h _ _ => h)
      ⟨⟨_, r0, World.ownsRow_nil _ _ _ _, trivial⟩, hbel, by omega⟩
      (fun k => { tmps := #[Value.string s, undef, Value.slice none 0 0, Value.pointer (some { block := R, off := 0 }), .string (S (pt l k)),
        Value.string s, Value.int IntKind.i64 0, Value.bool false, Value.string s,
        Value.func (Fn.func 29) #[] #[.pointer (some ⟨B + 1, 0, none⟩), .pointer (some ⟨B, 0, none⟩), .pointer (some ⟨B + 2, 0, none⟩)],
        .string (S (pt l k)), undef, undef, undef, undef, undef, undef], defers := [] }) ?assign ?body ?done ?stop
    case assign =>
      intro ll x W K hK
      gi_wp2
      exact hK
    case body =>
      rintro ll k W hkN ⟨⟨v, hv, hrow, -⟩, hB, hWB⟩
      have HC := Lib.hid (HCL.out k)
      have HPK := Lib.hid (HPT.out k hkN)
      have hkn : k ≤ 1000001 := by have := HNL.out; omega
      have hWR : R < W.heap.size := hv.lt
      have HKB := Lib.hid hB
      have HV := Lib.hid hv
      have HROW := Lib.hid hrow
      have hc := hv.cell
      clear hv hrow hB
      generalize S (pt l k) = pv at *
      gi_wp2
      refine wpIn_region_any (by kernel_rfl) ?_
      change wpAnyIn _ _ _ _ _ _ _ _ _ (World.drew W)
      refine wpAnyIn_ready (rs := [0, 1]) (by kernel_rfl) (by simp) ?_
      refine AllReadyIn.cons rfl (fun K hK => ?_) (AllReadyIn.cons rfl (fun K hK => ?_) AllReadyIn.nil)
      · go_simp
        refine hK _ _ ?_; clear hK K
        refine wpAnyIn_ready (rs := [1]) (by kernel_rfl) (by simp) ?_
        refine AllReadyIn.cons rfl (fun K hK => ?_) AllReadyIn.nil
        go_simp
        refine hK _ _ ?_; clear hK K
        refine wpAnyIn_ready (rs := [2]) (by kernel_rfl) (by simp) ?_
        refine AllReadyIn.cons rfl (fun K hK => ?_) AllReadyIn.nil
        go_simp
        gi_wp2_with ((refine ⟨trivial, ?_⟩; gi_at_call 24; refine (CallsIn.inRound ll (callsIn_wide.2 (HC.out _))).mono ?_; rintro e w4 ⟨rfl, hb4⟩))
        have hb5 : Below W.heap.size W w4 := (below_drewN (Below.refl W.heap.size W) 1).trans hb4
        have hc4 : w4.cell? ⟨R, 0, none⟩ = some v := (hb5.cell (p := ⟨R, 0, none⟩) hWR).trans hc
        have hrow4 := Lib.hid (own_below HROW.out hb5)
        have hs4 := hb5.size
        have hc6 : (w4.alloc (.cells #[.string pv] 9)).cell? ⟨R, 0, none⟩ = some v := (Boxed.alloc (W := w4) ((hb5.block R hWR).trans HV.out) _).cell
        change wpAnyIn _ _ _ _ _ _ _ _ _ w4
        refine wpAnyIn_ready (rs := [3]) (by kernel_rfl) (by simp) ?_
        refine AllReadyIn.cons rfl (fun K hK => ?_) AllReadyIn.nil
        go_simp
        refine hK _ _ ?_; clear hK K
        refine wpAnyIn_ready (rs := [4]) (by kernel_rfl) (by simp) ?_
        refine AllReadyIn.cons rfl (fun K hK => ?_) AllReadyIn.nil
        refine stepIn_append_lies' rfl (.tmp 11) (.tmp 14) 24 rfl (B + 3) 9 i0 (.string ⟨#[]⟩) 1 16 Tryd.underlying24 hi hz0 hz1 hz2 rfl (by decide) v k (strs ((spl l).take k)) rfl (hrow4.out.alloc _) ⟨w4.heap.size, 0, none⟩ 1 1 [.string pv] rfl rfl (one_cellD w4 _ _) (by intro u hu; simp at hu; subst hu; rfl) (by omega) (by unfold maxLen; omega) (by omega) (by simp; omega) _ rfl ?_
        intro g5 c5 w5 hown5 hg5 _ _
        obtain ⟨hv1, hfin⟩ := parts_leaf hRB hWB hb5 HKB.out HV.out HROW.out hown5 hg5 (by rw [HR.out]; exact Nat.le_refl _)
        have hc1 := hv1.cell
        have hf1 := hv1.frozen
        refine hK _ _ ?_; clear hK K
        refine wpAnyIn_ready (rs := [5]) (by kernel_rfl) (by simp) ?_
        refine AllReadyIn.cons rfl (fun K hK => ?_) AllReadyIn.nil
        go_simp
        refine hK _ _ ?_; clear hK K
        refine wpAnyIn_done (by kernel_rfl) ?_ _
        exact ⟨by rw [HS3.out]; exact hfin.1, hfin.2.1, ⟨_, hfin.2.2.1.1, by rw [HPK.out]; exact hfin.2.2.1.2, trivial⟩, hfin.2.2.2, Nat.le_trans hWB hfin.2.1.2⟩
      · go_simp
        refine hK _ _ ?_; clear hK K
        refine wpAnyIn_ready (rs := [0, 2]) (by kernel_rfl) (by simp) ?_
        refine AllReadyIn.cons rfl (fun K hK => ?_) (AllReadyIn.cons rfl (fun K hK => ?_) AllReadyIn.nil)
        · go_simp
          refine hK _ _ ?_; clear hK K
          refine wpAnyIn_ready (rs := [2]) (by kernel_rfl) (by simp) ?_
          refine AllReadyIn.cons rfl (fun K hK => ?_) AllReadyIn.nil
          go_simp
          gi_wp2_with ((refine ⟨trivial, ?_⟩; gi_at_call 24; refine (CallsIn.inRound ll (callsIn_wide.2 (HC.out _))).mono ?_; rintro e w4 ⟨rfl, hb4⟩))
          have hb5 : Below W.heap.size W w4 := (below_drewN (Below.refl W.heap.size W) 1).trans hb4
          have hc4 : w4.cell? ⟨R, 0, none⟩ = some v := (hb5.cell (p := ⟨R, 0, none⟩) hWR).trans hc
          have hrow4 := Lib.hid (own_below HROW.out hb5)
          have hs4 := hb5.size
          have hc6 : (w4.alloc (.cells #[.string pv] 9)).cell? ⟨R, 0, none⟩ = some v := (Boxed.alloc (W := w4) ((hb5.block R hWR).trans HV.out) _).cell
          change wpAnyIn _ _ _ _ _ _ _ _ _ w4
          refine wpAnyIn_ready (rs := [3]) (by kernel_rfl) (by simp) ?_
          refine AllReadyIn.cons rfl (fun K hK => ?_) AllReadyIn.nil
          go_simp
          refine hK _ _ ?_; clear hK K
          refine wpAnyIn_ready (rs := [4]) (by kernel_rfl) (by simp) ?_
          refine AllReadyIn.cons rfl (fun K hK => ?_) AllReadyIn.nil
          refine stepIn_append_lies' rfl (.tmp 11) (.tmp 14) 24 rfl (B + 3) 9 i0 (.string ⟨#[]⟩) 1 16 Tryd.underlying24 hi hz0 hz1 hz2 rfl (by decide) v k (strs ((spl l).take k)) rfl (hrow4.out.alloc _) ⟨w4.heap.size, 0, none⟩ 1 1 [.string pv] rfl rfl (one_cellD w4 _ _) (by intro u hu; simp at hu; subst hu; rfl) (by omega) (by unfold maxLen; omega) (by omega) (by simp; omega) _ rfl ?_
          intro g5 c5 w5 hown5 hg5 _ _
          obtain ⟨hv1, hfin⟩ := parts_leaf hRB hWB hb5 HKB.out HV.out HROW.out hown5 hg5 (by rw [HR.out]; exact Nat.le_refl _)
          have hc1 := hv1.cell
          have hf1 := hv1.frozen
          refine hK _ _ ?_; clear hK K
          refine wpAnyIn_ready (rs := [5]) (by kernel_rfl) (by simp) ?_
          refine AllReadyIn.cons rfl (fun K hK => ?_) AllReadyIn.nil
          go_simp
          refine hK _ _ ?_; clear hK K
          refine wpAnyIn_done (by kernel_rfl) ?_ _
          exact ⟨by rw [HS3.out]; exact hfin.1, hfin.2.1, ⟨_, hfin.2.2.1.1, by rw [HPK.out]; exact hfin.2.2.1.2, trivial⟩, hfin.2.2.2, Nat.le_trans hWB hfin.2.1.2⟩
        · go_simp
          gi_wp2_with ((refine ⟨trivial, ?_⟩; gi_at_call 24; refine (CallsIn.inRound ll (callsIn_wide.2 (HC.out _))).mono ?_; rintro e w4 ⟨rfl, hb4⟩))
          have hb5 : Below W.heap.size W w4 := (below_drewN (Below.refl W.heap.size W) 1).trans hb4
          have hc4 : w4.cell? ⟨R, 0, none⟩ = some v := (hb5.cell (p := ⟨R, 0, none⟩) hWR).trans hc
          have hrow4 := Lib.hid (own_below HROW.out hb5)
          have hs4 := hb5.size
          have hc6 : (w4.alloc (.cells #[.string pv] 9)).cell? ⟨R, 0, none⟩ = some v := (Boxed.alloc (W := w4) ((hb5.block R hWR).trans HV.out) _).cell
          change wpAnyIn _ _ _ _ _ _ _ _ _ w4
          refine wpAnyIn_ready (rs := [0, 3]) (by kernel_rfl) (by simp) ?_
          refine AllReadyIn.cons rfl (fun K hK => ?_) (AllReadyIn.cons rfl (fun K hK => ?_) AllReadyIn.nil)
          · go_simp
            refine hK _ _ ?_; clear hK K
            refine wpAnyIn_ready (rs := [3]) (by kernel_rfl) (by simp) ?_
            refine AllReadyIn.cons rfl (fun K hK => ?_) AllReadyIn.nil
            go_simp
            refine hK _ _ ?_; clear hK K
            refine wpAnyIn_ready (rs := [4]) (by kernel_rfl) (by simp) ?_
            refine AllReadyIn.cons rfl (fun K hK => ?_) AllReadyIn.nil
            refine stepIn_append_lies' rfl (.tmp 11) (.tmp 14) 24 rfl (B + 3) 9 i0 (.string ⟨#[]⟩) 1 16 Tryd.underlying24 hi hz0 hz1 hz2 rfl (by decide) v k (strs ((spl l).take k)) rfl (hrow4.out.alloc _) ⟨w4.heap.size, 0, none⟩ 1 1 [.string pv] rfl rfl (one_cellD w4 _ _) (by intro u hu; simp at hu; subst hu; rfl) (by omega) (by unfold maxLen; omega) (by omega) (by simp; omega) _ rfl ?_
            intro g5 c5 w5 hown5 hg5 _ _
            obtain ⟨hv1, hfin⟩ := parts_leaf hRB hWB hb5 HKB.out HV.out HROW.out hown5 hg5 (by rw [HR.out]; exact Nat.le_refl _)
            have hc1 := hv1.cell
            have hf1 := hv1.frozen
            refine hK _ _ ?_; clear hK K
            refine wpAnyIn_ready (rs := [5]) (by kernel_rfl) (by simp) ?_
            refine AllReadyIn.cons rfl (fun K hK => ?_) AllReadyIn.nil
            go_simp
            refine hK _ _ ?_; clear hK K
            refine wpAnyIn_done (by kernel_rfl) ?_ _
            exact ⟨by rw [HS3.out]; exact hfin.1, hfin.2.1, ⟨_, hfin.2.2.1.1, by rw [HPK.out]; exact hfin.2.2.1.2, trivial⟩, hfin.2.2.2, Nat.le_trans hWB hfin.2.1.2⟩
          · go_simp
            refine hK _ _ ?_; clear hK K
            refine wpAnyIn_ready (rs := [0]) (by kernel_rfl) (by simp) ?_
            refine AllReadyIn.cons rfl (fun K hK => ?_) AllReadyIn.nil
            go_simp
            refine hK _ _ ?_; clear hK K
            refine wpAnyIn_ready (rs := [4]) (by kernel_rfl) (by simp) ?_
            refine AllReadyIn.cons rfl (fun K hK => ?_) AllReadyIn.nil
            refine stepIn_append_lies' rfl (.tmp 11) (.tmp 14) 24 rfl (B + 3) 9 i0 (.string ⟨#[]⟩) 1 16 Tryd.underlying24 hi hz0 hz1 hz2 rfl (by decide) v k (strs ((spl l).take k)) rfl (hrow4.out.alloc _) ⟨w4.heap.size, 0, none⟩ 1 1 [.string pv] rfl rfl (one_cellD w4 _ _) (by intro u hu; simp at hu; subst hu; rfl) (by omega) (by unfold maxLen; omega) (by omega) (by simp; omega) _ rfl ?_
            intro g5 c5 w5 hown5 hg5 _ _
            obtain ⟨hv1, hfin⟩ := parts_leaf hRB hWB hb5 HKB.out HV.out HROW.out hown5 hg5 (by rw [HR.out]; exact Nat.le_refl _)
            have hc1 := hv1.cell
            have hf1 := hv1.frozen
            refine hK _ _ ?_; clear hK K
            refine wpAnyIn_ready (rs := [5]) (by kernel_rfl) (by simp) ?_
            refine AllReadyIn.cons rfl (fun K hK => ?_) AllReadyIn.nil
            go_simp
            refine hK _ _ ?_; clear hK K
            refine wpAnyIn_done (by kernel_rfl) ?_ _
            exact ⟨by rw [HS3.out]; exact hfin.1, hfin.2.1, ⟨_, hfin.2.2.1.1, by rw [HPK.out]; exact hfin.2.2.1.2, trivial⟩, hfin.2.2.2, Nat.le_trans hWB hfin.2.1.2⟩
    case done =>
      rintro D W hD ⟨⟨v, hv, hrow, -⟩, hB, hWB⟩ hK
      have hc := hv.cell
      gi_wp2
      have hDR : R ≤ D := by omega
      have hrow2 := ownsRow_putObj hrow (.deferred none) hK rfl
      rw [List.take_of_length_le (Nat.le_refl _), ← hp.out] at hrow2
      refine ⟨by simp, .inl ⟨_, _, rfl, run_takeDeferred hK, ?_⟩⟩
      exact ⟨_, results_tmp rfl _ _ _, v, _, rfl, own_baseV hrow2 (by have := HS1.out; omega), (HB1.out.trans (hB.mono HS1.out)).trans (belowK_b (w := w) (Nat.le_refl _) W D _ _ (by have := HS1.out; omega) hK rfl rfl)⟩
    case stop =>
      rintro D k W hD hkN h
      exact h.elim
theorem Parts_c (l : List UInt8) (hl : l.length ≤ 1000000) (w : World) :
    Calls Tryd.prog 13 #[.string (S l)] w fun e w' => ∃ A n c, e = .returned (.slice A n c) ∧ w'.ownsRow w.heap.size 9 1 (.slice A n c) n (strs (ptsF l)) ∧ Below w.heap.size w w' := by
  refine (callsIn_wide.1 (Parts_in l hl w)).mono ?_
  rintro e w' ⟨v, n, rfl, h, hb⟩
  rcases h.2 with ⟨rfl, rfl⟩ | ⟨g, cap, cur, rfl, _⟩
  · exact ⟨_, _, _, rfl, h, hb⟩
  · exact ⟨_, _, _, rfl, h, hb⟩
end Go.Proofs.YtcodgamhgfafnaaDoor
