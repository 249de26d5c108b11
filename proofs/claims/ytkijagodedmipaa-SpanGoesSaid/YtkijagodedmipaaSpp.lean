/-
  SPAN: Clone of a writer, and Go: a writer of its own, with rows that were given. No conditions.
-/
import Derived.Test.YtkijagodedmipaaSpj
namespace Go.Proofs.Ytkijagodedmipaa
open Go.RowKit
set_option maxRecDepth 100000
set_option linter.unusedVariables false

/-- a writer, made of cloned rows -/
theorem spt_new {w0 w1 w2 : World} {n c g S : Nat} {RA : Nat → Option Addr} {RC : Nat → Nat} {R : Nat → List F} (hT : w2.ownsRow w1.heap.size 33 1 (.slice (some ⟨g, 0, none⟩) n c) n (rcs RA R RC n)) (hR : SRows w2 w1.heap.size g g (fun k => w1.heap.size ≤ k ∧ k < w2.heap.size) n RA RC R) (h01 : w0.heap.size ≤ w1.heap.size) :
    Spt (w2.alloc (.cells #[.int .i64 (S : Int), .slice (some ⟨g, 0, none⟩) n c] 62)) w0.heap.size w2.heap.size S n R (Fgrow (fun _ => False) w0.heap.size (w2.alloc (.cells #[.int .i64 (S : Int), .slice (some ⟨g, 0, none⟩) n c] 62)).heap.size) g c RA RC := by
  have hsz : (w2.alloc (.cells #[.int .i64 (S : Int), .slice (some ⟨g, 0, none⟩) n c] 62)).heap.size = w2.heap.size + 1 := by simp
  have hg := own_ltc hT
  refine ⟨Blk.new _ _ _, (own_base hT h01).alloc _, fun r hr => ⟨(own_base (hR r hr).1 h01).alloc _, fun b hb => ?_⟩, .inr ⟨by omega, by omega⟩, .inr ⟨by omega, by omega⟩, by omega, fun k hk => ?_⟩
  · obtain ⟨⟨h1, h2⟩, h3, h4, h5⟩ := (hR r hr).2 b hb
    exact ⟨.inr ⟨by omega, by omega⟩, by omega, h4, h5⟩
  · rcases hk with hk | hk
    · exact hk.elim
    · exact hk
/-- a row of bytes that no volume may be -/
def badB (S n : Nat) (R : Nat → List F) : Bool := (List.range n).any fun r => decide ((R r).length = 0 ∨ S < (R r).length)
theorem badB_yes {S n : Nat} {R : Nat → List F} {r : Nat} (hr : r < n) (h : (R r).length = 0 ∨ S < (R r).length) : badB S n R = true := by
  unfold badB
  rw [List.any_eq_true]
  exact ⟨r, by simpa using hr, by simpa using h⟩
theorem badB_no {S n : Nat} {R : Nat → List F} (h : ∀ r, r < n → ¬ ((R r).length = 0 ∨ S < (R r).length)) : badB S n R = false := by
  unfold badB
  rw [List.any_eq_false]
  intro r hr
  have h9 := h r (by simpa using hr)
  simpa using h9
theorem goC_c (A : Option Addr) (L c q S : Nat) (w : World) (h1 : w.cell? ⟨q, 0, none⟩ = some (.int .i64 (S : Int))) :
    Calls Try.prog 30 #[.slice A L c, .pointer (some ⟨q, 0, none⟩)] w fun e w' => e = .returned (.bool (decide (L = 0 ∨ S < L))) ∧ w = w' := by
  by_cases h0 : L = 0
  · subst h0
    have e0 : decide ((0 : Nat) = 0 ∨ S < 0) = true := by simp
    rw [e0]
    go_enter Try.func30, Try.ntmps30
    go_wp2
    go_ret
    exact ⟨rfl, rfl⟩
  · have j0 : ((L : Int) == 0) = false := by rw [beq_eq_false_iff_ne]; omega
    by_cases hS : S < L
    · have e0 : decide (L = 0 ∨ S < L) = true := by simp [hS]
      have j1 : (S : Int) < (L : Int) := by omega
      rw [e0]
      clear h0 e0
      go_enter Try.func30, Try.ntmps30
      go_wp2
      go_ret
      exact ⟨rfl, rfl⟩
    · have e0 : decide (L = 0 ∨ S < L) = false := by simp [hS, h0]
      have j1 : ¬ (S : Int) < (L : Int) := by omega
      rw [e0]
      clear h0 e0
      go_enter Try.func30, Try.ntmps30
      go_wp2
      go_ret
      exact ⟨rfl, rfl⟩
set_option maxHeartbeats 1000000 in
theorem IndexG_c {w : World} {A : Option Addr} {n cap : Nat} {RA : Nat → Option Addr} {RC : Nat → Nat} {R : Nat → List F} (h : MInR w A n cap RA RC R) (q S : Nat) (hq : w.cell? ⟨q, 0, none⟩ = some (.int .i64 (S : Int))) :
    Calls Try.prog 34 #[.slice A n cap, .func (.func 30) #[] #[.pointer (some ⟨q, 0, none⟩)]] w fun e w' => ∃ x : Int, e = .returned (.int .i64 x) ∧ decide (0 ≤ x) = badB S n R ∧ w = w' := by
  have hnm := h.nmax
  have H := Lib.hid h
  clear h
  unfold maxLen at hnm
  go_enter Try.func34, Try.ntmps34
  go_wp2
  go_loop [8] (fun i => ∃ k : Nat, k ≤ n ∧ i = .int .i64 k ∧ Hid (∀ r, r < k → ¬ ((R r).length = 0 ∨ S < (R r).length))) (fun i => n - (intOf i).toNat)
  case atStart => exact ⟨0, by omega, rfl, fun r h1 => by omega⟩
  case round =>
    obtain ⟨k, hk, rfl, hs⟩ := hrel
    by_cases hlt : k < n
    · have hkm : (k : Int) < n := by omega
      obtain ⟨b1, o1, rfl, l1, q1⟩ := MIn.at_ H.out hlt
      by_cases hz : (R k).length = 0 ∨ S < (R k).length
      · have hv := goC_c (RA k) (R k).length (RC k) q S w hq
        rw [decide_eq_true hz] at hv
        have HV := Lib.hid hv
        have HZ := Lib.hid hz
        clear hv hz
        go_wp2_with (go_at_call 30; refine HV.out.mono ?_; rintro e w' ⟨rfl, rfl⟩)
        go_ret
        refine ⟨_, rfl, ?_, rfl⟩
        rw [badB_yes hlt HZ.out]
        simp
      · have hv := goC_c (RA k) (R k).length (RC k) q S w hq
        rw [decide_eq_false hz] at hv
        have HV := Lib.hid hv
        have HZ := Lib.hid hz
        clear hv hz
        go_wp2_with (go_at_call 30; refine HV.out.mono ?_; rintro e w' ⟨rfl, rfl⟩)
        go_round
        case rel =>
          refine ⟨k + 1, by omega, by go_num, fun r h1 => ?_⟩
          rcases Nat.lt_or_ge r k with h3 | h3
          · exact hs.out r h3
          · rw [show r = k by omega]; exact HZ.out
        case measure => simp [intOf]; omega
    · obtain rfl : k = n := by omega
      go_wp2
      go_ret
      refine ⟨_, rfl, ?_, rfl⟩
      rw [badB_no hs.out]
      rfl
theorem ContainsG_c {w : World} {A : Option Addr} {n cap : Nat} {RA : Nat → Option Addr} {RC : Nat → Nat} {R : Nat → List F} (h : MInR w A n cap RA RC R) (q S : Nat) (hq : w.cell? ⟨q, 0, none⟩ = some (.int .i64 (S : Int))) :
    Calls Try.prog 29 #[.slice A n cap, .func (.func 30) #[] #[.pointer (some ⟨q, 0, none⟩)]] w fun e w' => e = .returned (.bool (badB S n R)) ∧ w = w' := by
  have HI := Lib.hid (IndexG_c h q S hq)
  clear h hq
  go_enter Try.func29, Try.ntmps29
  go_wp2_with (go_at_call 34; refine HI.out.mono ?_; rintro e w' ⟨x, rfl, hx, rfl⟩; have HX := Lib.hid hx; clear hx)
  go_ret
  exact ⟨by rw [HX.out]; rfl, rfl⟩

/-- a writer of its own, with the same volumes -/
def NwC (w : World) (S : Nat) (v : Vs) (e : Ending) (w' : World) : Prop := ∃ q, e = .returned (.pointer (some ⟨q, 0, none⟩)) ∧ Below w.heap.size w w' ∧ Spw w' w.heap.size q S v (Fgrow (fun _ => False) w.heap.size w'.heap.size)
set_option maxHeartbeats 2000000 in
theorem CloneW_c {w : World} {base p S : Nat} {v : Vs} {Fp : Nat → Prop} (h : Spw w base p S v Fp) (hv : VOk S v) (hS : S ≤ 16777216) (hm : v.P.length < 1000000) :
    Calls Try.prog 23 #[.pointer (some ⟨p, 0, none⟩)] w fun e w' => NwC w S v e w' := by
  obtain ⟨g, c, RA, RC, hz, hM⟩ := h.min
  have hz0 : w.cell? ⟨p, 0, none⟩ = some (.int .i64 (S : Int)) := by obtain ⟨_, _, _, _, h2⟩ := h; exact h2.blk.cell 0
  have HC : Hid (∀ W', Below w.heap.size w W' → Calls Try.prog 28 #[.slice (some ⟨g, 0, none⟩) (v.P.length + 1) c] W' fun e w' => ClnR W' (v.P.length + 1) (vrow v) e w') := fun W' hb => clone_c (MIn.below hM hb) (by omega) (by omega) (fun r hr => by have := (hv.row hr).2; omega)
  have HC0 := Lib.hid ((Below.refl w.heap.size w).drew)
  have hS0 : w.cell? ⟨p, 0, none⟩ = some (.int .i64 (S : Int)) ∧ w.cell? ⟨p, 1, none⟩ = some (.slice (some ⟨g, 0, none⟩) (v.P.length + 1) c) := ⟨hz0, hz⟩
  have hplt : p < w.heap.size := h.plt.2
  have HX : Hid (∀ W', Below w.heap.size w W' → W'.cell? ⟨p, 0, none⟩ = some (.int .i64 (S : Int)) ∧ W'.cell? ⟨p, 1, none⟩ = some (.slice (some ⟨g, 0, none⟩) (v.P.length + 1) c)) := fun W' hb => ⟨(hb.cell (p := ⟨p, 0, none⟩) hplt).trans hz0, (hb.cell (p := ⟨p, 1, none⟩) hplt).trans hz⟩
  have HVP : Hid (∀ (w' : World) e q, e = .returned (.pointer (some ⟨q, 0, none⟩)) → Below w.heap.size w w' → Spw w' w.heap.size q S v (Fgrow (fun _ => False) w.heap.size w'.heap.size) → NwC w S v e w') := fun w' e q h1 h2 h3 => ⟨q, h1, h2, h3⟩
  have HSP : Hid (∀ (w1 w2 : World) (g' c' : Nat) (RA' : Nat → Option Addr) (RC' : Nat → Nat), w2.ownsRow w1.heap.size 33 1 (.slice (some ⟨g', 0, none⟩) (v.P.length + 1 : Nat) c') (v.P.length + 1) (rcs RA' (vrow v) RC' (v.P.length + 1)) → SRows w2 w1.heap.size g' g' (fun k => w1.heap.size ≤ k ∧ k < w2.heap.size) (v.P.length + 1) RA' RC' (vrow v) → w.heap.size ≤ w1.heap.size → Spw (w2.alloc (.cells #[.int .i64 (S : Int), .slice (some ⟨g', 0, none⟩) (v.P.length + 1 : Nat) c'] 62)) w.heap.size w2.heap.size S v (Fgrow (fun _ => False) w.heap.size (w2.alloc (.cells #[.int .i64 (S : Int), .slice (some ⟨g', 0, none⟩) (v.P.length + 1 : Nat) c'] 62)).heap.size)) := fun w1 w2 g' c' RA' RC' a b cc => ⟨g', c', RA', RC', spt_new (w0 := w) a b cc⟩
  generalize v.P.length + 1 = n at *
  clear hM h hz0 hz hv
  go_enter Try.func23, Try.ntmps23
  go_wp2_with fail
  refine wp_region_held_drew (S := fun W' => W'.cell? ⟨p, 0, none⟩ = some (.int .i64 (S : Int)) ∧ W'.cell? ⟨p, 1, none⟩ = some (.slice (some ⟨g, 0, none⟩) n c)) (by kernel_rfl) ?_ (fun hHeld => ?_)
  · go_keep
  refine wpAnyH_take (i := 0) (oi := { dst := some 3, op := _, type := _, pos := _, after := _, guard := _ }) (v := ?_) rfl (by kernel_rfl) (by kernel_rfl) (by kernel_rfl) (fun _ _ _ h => h) (Or.inl ⟨by rfl, ?_⟩) (by assumption) ?_
  rotate_left
  · intro w' hSw
    try dsimp only at hSw
    go_simp
    try with_reducible rfl
  try simp only [Act.put, List.setIfInBounds_toArray, List.set_cons_zero, List.set_cons_succ]
  refine wpAnyH_take (i := 1) (oi := { dst := some 4, op := _, type := _, pos := _, after := _, guard := _ }) (v := ?_) rfl (by kernel_rfl) (by kernel_rfl) (by kernel_rfl) (fun _ _ _ h => h) (Or.inl ⟨by rfl, ?_⟩) (by assumption) ?_
  rotate_left
  · intro w' hSw
    try dsimp only at hSw
    go_simp
    try with_reducible rfl
  try simp only [Act.put, List.setIfInBounds_toArray, List.set_cons_zero, List.set_cons_succ]
  refine wpAnyH_take (i := 2) (oi := { dst := some 5, op := _, type := _, pos := _, after := _, guard := _ }) (v := ?_) rfl (by kernel_rfl) (by kernel_rfl) (by kernel_rfl) (fun _ _ _ h => h) (Or.inl ⟨by rfl, ?_⟩) (by assumption) ?_
  rotate_left
  · intro w' hSw
    try dsimp only at hSw
    go_simp
    try with_reducible rfl
  try simp only [Act.put, List.setIfInBounds_toArray, List.set_cons_zero, List.set_cons_succ]
  refine wpAnyH_take (i := 3) (oi := { dst := some 6, op := _, type := _, pos := _, after := _, guard := _ }) (v := ?_) rfl (by kernel_rfl) (by kernel_rfl) (by kernel_rfl) (fun _ _ _ h => h) (Or.inl ⟨by rfl, ?_⟩) (by assumption) ?_
  rotate_left
  · intro w' hSw
    try dsimp only at hSw
    go_simp
    try with_reducible rfl
  try simp only [Act.put, List.setIfInBounds_toArray, List.set_cons_zero, List.set_cons_succ]
  refine wpAnyH_take (i := 4) (oi := { dst := some 7, op := _, type := _, pos := _, after := _, guard := _ }) (v := ?_) rfl (by kernel_rfl) (by kernel_rfl) (by kernel_rfl) (fun _ _ _ h => h) (Or.inl ⟨by rfl, ?_⟩) (by assumption) ?_
  rotate_left
  · intro w' hSw
    try dsimp only at hSw
    go_simp
    try with_reducible rfl
  try simp only [Act.put, List.setIfInBounds_toArray, List.set_cons_zero, List.set_cons_succ]
  refine wpAnyH_take (i := 5) (oi := { dst := some 8, op := _, type := _, pos := _, after := _, guard := _ }) (v := ?_) rfl (by kernel_rfl) (by kernel_rfl) (by kernel_rfl) (fun _ _ _ h => h) (Or.inl ⟨by rfl, ?_⟩) (by assumption) ?_
  rotate_left
  · intro w' hSw
    try dsimp only at hSw
    go_simp
    try with_reducible rfl
  try simp only [Act.put, List.setIfInBounds_toArray, List.set_cons_zero, List.set_cons_succ]
  refine wpAnyH_take (i := 6) (oi := { dst := some 9, op := _, type := _, pos := _, after := _, guard := _ }) (v := ?_) rfl (by kernel_rfl) (by kernel_rfl) (by kernel_rfl) (fun _ _ _ h => h) (Or.inl ⟨by rfl, ?_⟩) (by assumption) ?_
  rotate_left
  · intro w' hSw
    try dsimp only at hSw
    go_simp
    try with_reducible rfl
  try simp only [Act.put, List.setIfInBounds_toArray, List.set_cons_zero, List.set_cons_succ]
  refine wpAnyH_take (i := 7) (oi := { dst := some 10, op := _, type := _, pos := _, after := _, guard := _ }) (v := ?_) rfl (by kernel_rfl) (by kernel_rfl) (by kernel_rfl) (fun _ _ _ h => h) (Or.inl ⟨by rfl, ?_⟩) (by assumption) ?_
  rotate_left
  · intro w' hSw
    try dsimp only at hSw
    go_simp
    try with_reducible rfl
  try simp only [Act.put, List.setIfInBounds_toArray, List.set_cons_zero, List.set_cons_succ]
  refine wpAnyH_ready (rs := [8]) (by kernel_rfl) (by simp) ?_
  refine AllReadyH.cons (o := { dst := some 11, op := _, type := _, pos := _, after := _, guard := _ }) rfl (fun K hK => ?_) AllReadyH.nil
  go_simp
  go_at_call 28
  refine (HC.out _ HC0.out).mono ?_
  rintro e w2 ⟨g2, c2, RA2, RC2, rfl, hT2, hR2, hb2⟩
  try go_wp2_with fail
  have HT2 := Lib.hid hT2
  have HR2 := Lib.hid hR2
  have HC1 := Lib.hid (HC0.out.trans (hb2.mono HC0.out.size))
  clear hT2 hR2 hb2
  refine hK.out _ _ ?_ (fun hHeld => ?_)
  · exact HX.out _ HC1.out
  clear hK K
  try simp only [Act.put, List.setIfInBounds_toArray, List.set_cons_zero, List.set_cons_succ]
  refine wpAnyH_take (i := 9) (oi := { dst := some 12, op := _, type := _, pos := _, after := _, guard := _ }) (v := ?_) rfl (by kernel_rfl) (by kernel_rfl) (by kernel_rfl) (fun _ _ _ h => h) (Or.inl ⟨by rfl, ?_⟩) (by assumption) ?_
  rotate_left
  · intro w' hSw
    try dsimp only at hSw
    go_simp
    try with_reducible rfl
  try simp only [Act.put, List.setIfInBounds_toArray, List.set_cons_zero, List.set_cons_succ]
  refine wpAnyH_ready (rs := [10]) (by kernel_rfl) (by simp) ?_
  refine AllReadyH.cons (o := { dst := some 13, op := _, type := _, pos := _, after := _, guard := _ }) rfl (fun K hK => ?_) AllReadyH.nil
  go_simp
  have HC2 := Lib.hid (HC1.out.trans ((Below.refl w2.heap.size w2).alloc (Nat.le_refl _) (.cells #[.int .i64 (S : Int), .slice (some ⟨g2, 0, none⟩) n c2] 62) |>.mono HC1.out.size))
  try go_wp2_with fail
  refine hK.out _ _ ?_ (fun hHeld => ?_)
  · exact HX.out _ HC2.out
  clear hK K
  try simp only [Act.put, List.setIfInBounds_toArray, List.set_cons_zero, List.set_cons_succ]
  refine wpAnyH_take (i := 11) (oi := { dst := some 2, op := _, type := _, pos := _, after := _, guard := _ }) (v := ?_) rfl (by kernel_rfl) (by kernel_rfl) (by kernel_rfl) (fun _ _ _ h => h) (Or.inl ⟨by rfl, ?_⟩) (by assumption) ?_
  rotate_left
  · intro w' hSw
    try dsimp only at hSw
    go_simp
    try with_reducible rfl
  try simp only [Act.put, List.setIfInBounds_toArray, List.set_cons_zero, List.set_cons_succ]
  refine wpAnyH_done (by kernel_rfl) ?_ _
  go_wp2
  go_ret
  exact HVP.out _ _ _ rfl HC2.out (HSP.out w.drew w2 g2 c2 RA2 RC2 HT2.out HR2.out (Nat.le_refl _))

theorem Go_one {s : Int} (hs : chkS s = 1) (hw : (Lit.int .i64 s).wf = true) (A : Option Addr) (n cap : Nat) (w : World) :
    Calls Try.prog 22 #[.int .i64 s, .slice A n cap] w fun e w' => e = .returned (.tuple #[.pointer none, .int .i64 1]) ∧ Below w.heap.size w w' := by
  have hb := (Below.refl w.heap.size w).alloc (Nat.le_refl _) (.cells #[.int .i64 s] 3)
  have HB := Lib.hid hb
  have HS := Lib.hid hs
  clear hb hs
  go_enter Try.func22, Try.ntmps22
  go_wp2_with fail
  refine (check_c s _).mono ?_
  rintro e _ ⟨rfl, rfl⟩
  rw [HS.out]
  go_wp2
  go_ret2
  exact ⟨rfl, HB.out⟩
theorem Go_form {S : Nat} (h5 : 5 ≤ S) (h6 : S ≤ 16777216) {w : World} {A : Option Addr} {n cap : Nat} {RA : Nat → Option Addr} {RC : Nat → Nat} {R : Nat → List F} (h : MInR w A n cap RA RC R) (hbad : n = 0 ∨ badB S n R = true) :
    Calls Try.prog 22 #[.int .i64 (S : Int), .slice A n cap] w fun e w' => e = .returned (.tuple #[.pointer none, .int .i64 21]) ∧ Below w.heap.size w w' := by
  have hmf : ∀ (fn : Fn) (first cap : Array Value) (w : World), (Instr.makeFunc fn first cap).run Try.prog w = .ok (.func fn first cap) w := fun _ _ _ _ => rfl
  have hb := (Below.refl w.heap.size w).alloc (Nat.le_refl _) (.cells #[.int .i64 (S : Int)] 3)
  have hS : chkS (S : Int) = 0 := if_neg (by omega)
  have hk : (w.alloc (.cells #[.int .i64 (S : Int)] 3)).cell? ⟨w.heap.size, 0, none⟩ = some (.int .i64 (S : Int)) := (Blk.new w 3 #[.int .i64 (S : Int)]).cell 0
  have HG := Lib.hid (ContainsG_c (MIn.below h hb) w.heap.size S hk)
  have hnm := h.nmax
  have HB := Lib.hid hb
  have HS := Lib.hid hS
  clear hb hS hk h
  cases hbb : badB S n R with
  | true =>
    rw [hbb] at HG
    clear hbb hbad
    go_enter Try.func22, Try.ntmps22
    go_wp2_with fail
    refine (check_c S _).mono ?_
    rintro e _ ⟨rfl, rfl⟩
    rw [HS.out]
    go_wp2_with (go_at_call 29; refine HG.out.mono ?_; rintro e _ ⟨rfl, rfl⟩)
    go_ret2
    exact ⟨rfl, HB.out⟩
  | false =>
    rw [hbb] at HG
    have h0 : n = 0 := by
      rcases hbad with h | h
      · exact h
      · rw [hbb] at h; cases h
    have j0 : ((n : Int) == 0) = true := by rw [beq_iff_eq]; omega
    clear hbb hbad h0
    go_enter Try.func22, Try.ntmps22
    go_wp2_with fail
    refine (check_c S _).mono ?_
    rintro e _ ⟨rfl, rfl⟩
    rw [HS.out]
    go_wp2_with (go_at_call 29; refine HG.out.mono ?_; rintro e _ ⟨rfl, rfl⟩)
    go_ret2
    exact ⟨rfl, HB.out⟩
/-- a writer of its own, with rows that are right -/
def NwG (w : World) (S n : Nat) (R : Nat → List F) (e : Ending) (w' : World) : Prop := ∃ q g c RA RC, e = .returned (.tuple #[.pointer (some ⟨q, 0, none⟩), .int .i64 0]) ∧ Below w.heap.size w w' ∧ Spt w' w.heap.size q S n R (Fgrow (fun _ => False) w.heap.size w'.heap.size) g c RA RC
set_option maxHeartbeats 2000000 in
theorem Go_yes {S : Nat} (h5 : 5 ≤ S) (h6 : S ≤ 16777216) {w : World} {A : Option Addr} {n cap : Nat} {RA : Nat → Option Addr} {RC : Nat → Nat} {R : Nat → List F} (h : MInR w A n cap RA RC R) (h0 : 0 < n) (hn : n ≤ 1000000) (hR : ∀ r, r < n → 1 ≤ (R r).length ∧ (R r).length ≤ S) :
    Calls Try.prog 22 #[.int .i64 (S : Int), .slice A n cap] w fun e w' => NwG w S n R e w' := by
  have hmf : ∀ (fn : Fn) (first cap : Array Value) (w : World), (Instr.makeFunc fn first cap).run Try.prog w = .ok (.func fn first cap) w := fun _ _ _ _ => rfl
  have hb := (Below.refl w.heap.size w).alloc (Nat.le_refl _) (.cells #[.int .i64 (S : Int)] 3)
  have hS : chkS (S : Int) = 0 := if_neg (by omega)
  have hK := Blk.new w 3 #[.int .i64 (S : Int)]
  have hM := MIn.below h hb
  have hG := ContainsG_c hM w.heap.size S (hK.cell 0)
  rw [badB_no (fun r hr e => by have := hR r hr; omega)] at hG
  have HG := Lib.hid hG
  have j0 : ((n : Int) == 0) = false := by rw [beq_eq_false_iff_ne]; omega
  have HC : Hid (∀ W', Below (w.alloc (.cells #[.int .i64 (S : Int)] 3)).heap.size (w.alloc (.cells #[.int .i64 (S : Int)] 3)) W' → Calls Try.prog 28 #[.slice A n cap] W' fun e w' => ClnR W' n R e w') := fun W' hb => clone_c (MIn.below hM hb) hn h0 (fun r hr => by have := hR r hr; omega)
  have HX : Hid (∀ W', Below (w.alloc (.cells #[.int .i64 (S : Int)] 3)).heap.size (w.alloc (.cells #[.int .i64 (S : Int)] 3)) W' → W'.cell? ⟨w.heap.size, 0, none⟩ = some (.int .i64 (S : Int))) := fun W' hb => (hK.below hK.lt hb).cell 0
  have HC0 := Lib.hid ((Below.refl (w.alloc (.cells #[.int .i64 (S : Int)] 3)).heap.size (w.alloc (.cells #[.int .i64 (S : Int)] 3))).drew)
  have HB := Lib.hid hb
  have HS := Lib.hid hS
  have hsz : (w.alloc (.cells #[.int .i64 (S : Int)] 3)).heap.size = w.heap.size + 1 := by simp
  have hnm := h.nmax
  clear hb hS hK hM hG h hR
  go_enter Try.func22, Try.ntmps22
  go_wp2_with fail
  refine (check_c S _).mono ?_
  rintro e _ ⟨rfl, rfl⟩
  rw [HS.out]
  go_wp2_with (first
    | (go_at_call 29; refine HG.out.mono ?_; rintro e _ ⟨rfl, rfl⟩)
    | fail)
  generalize w.alloc (.cells #[.int .i64 (S : Int)] 3) = W0 at *
  have hS0 : W0.cell? ⟨w.heap.size, 0, none⟩ = some (.int .i64 (S : Int)) := HX.out _ (Below.refl _ _)
  refine wp_region_held_drew (S := fun W' => W'.cell? ⟨w.heap.size, 0, none⟩ = some (.int .i64 (S : Int))) (by kernel_rfl) ?_ (fun hHeld => ?_)
  · go_keep
  refine wpAnyH_take (i := 0) (oi := { dst := some 22, op := _, type := _, pos := _, after := _, guard := _ }) (v := ?_) rfl (by kernel_rfl) (by kernel_rfl) (by kernel_rfl) (fun _ _ _ h => h) (Or.inl ⟨by rfl, ?_⟩) (by assumption) ?_
  rotate_left
  · intro w' hSw
    try dsimp only at hSw
    go_simp
    try with_reducible rfl
  try simp only [Act.put, List.setIfInBounds_toArray, List.set_cons_zero, List.set_cons_succ]
  refine wpAnyH_take (i := 1) (oi := { dst := some 23, op := _, type := _, pos := _, after := _, guard := _ }) (v := ?_) rfl (by kernel_rfl) (by kernel_rfl) (by kernel_rfl) (fun _ _ _ h => h) (Or.inl ⟨by rfl, ?_⟩) (by assumption) ?_
  rotate_left
  · intro w' hSw
    try dsimp only at hSw
    go_simp
    try with_reducible rfl
  try simp only [Act.put, List.setIfInBounds_toArray, List.set_cons_zero, List.set_cons_succ]
  refine wpAnyH_ready (rs := [2]) (by kernel_rfl) (by simp) ?_
  refine AllReadyH.cons (o := { dst := some 24, op := _, type := _, pos := _, after := _, guard := _ }) rfl (fun K hK => ?_) AllReadyH.nil
  go_simp
  go_at_call 28
  refine (HC.out _ HC0.out).mono ?_
  rintro e w2 ⟨g2, c2, RA2, RC2, rfl, hT2, hR2, hb2⟩
  try go_wp2_with fail
  have HT2 := Lib.hid hT2
  have HR2 := Lib.hid hR2
  have HC1 := Lib.hid (HC0.out.trans (hb2.mono HC0.out.size))
  clear hT2 hR2 hb2
  refine hK.out _ _ ?_ (fun hHeld => ?_)
  · exact HX.out _ HC1.out
  clear hK K
  try simp only [Act.put, List.setIfInBounds_toArray, List.set_cons_zero, List.set_cons_succ]
  refine wpAnyH_take (i := 3) (oi := { dst := some 25, op := _, type := _, pos := _, after := _, guard := _ }) (v := ?_) rfl (by kernel_rfl) (by kernel_rfl) (by kernel_rfl) (fun _ _ _ h => h) (Or.inl ⟨by rfl, ?_⟩) (by assumption) ?_
  rotate_left
  · intro w' hSw
    try dsimp only at hSw
    go_simp
    try with_reducible rfl
  try simp only [Act.put, List.setIfInBounds_toArray, List.set_cons_zero, List.set_cons_succ]
  refine wpAnyH_ready (rs := [4]) (by kernel_rfl) (by simp) ?_
  refine AllReadyH.cons (o := { dst := some 26, op := _, type := _, pos := _, after := _, guard := _ }) rfl (fun K hK => ?_) AllReadyH.nil
  go_simp
  have HC2 := Lib.hid (HC1.out.trans ((Below.refl w2.heap.size w2).alloc (Nat.le_refl _) (.cells #[.int .i64 (S : Int), .slice (some ⟨g2, 0, none⟩) n c2] 62) |>.mono HC1.out.size))
  try go_wp2_with fail
  refine hK.out _ _ ?_ (fun hHeld => ?_)
  · exact HX.out _ HC2.out
  clear hK K
  try simp only [Act.put, List.setIfInBounds_toArray, List.set_cons_zero, List.set_cons_succ]
  refine wpAnyH_take (i := 5) (oi := { dst := some 4, op := _, type := _, pos := _, after := _, guard := _ }) (v := ?_) rfl (by kernel_rfl) (by kernel_rfl) (by kernel_rfl) (fun _ _ _ h => h) (Or.inl ⟨by rfl, ?_⟩) (by assumption) ?_
  rotate_left
  · intro w' hSw
    try dsimp only at hSw
    go_simp
    try with_reducible rfl
  try simp only [Act.put, List.setIfInBounds_toArray, List.set_cons_zero, List.set_cons_succ]
  refine wpAnyH_take (i := 6) (oi := { dst := some 5, op := _, type := _, pos := _, after := _, guard := _ }) (v := ?_) rfl (by kernel_rfl) (by kernel_rfl) (by kernel_rfl) (fun _ _ _ h => h) (Or.inl ⟨by rfl, ?_⟩) (by assumption) ?_
  rotate_left
  · intro w' hSw
    try dsimp only at hSw
    go_simp
    try with_reducible rfl
  try simp only [Act.put, List.setIfInBounds_toArray, List.set_cons_zero, List.set_cons_succ]
  refine wpAnyH_done (by kernel_rfl) ?_ _
  go_wp2
  go_ret2
  exact ⟨_, g2, c2, RA2, RC2, rfl, HB.out.trans (HC2.out.mono (by omega)), spt_new (w0 := w) (w1 := W0.drew) HT2.out HR2.out (by show w.heap.size ≤ W0.heap.size; omega)⟩
end Go.Proofs.Ytkijagodedmipaa
