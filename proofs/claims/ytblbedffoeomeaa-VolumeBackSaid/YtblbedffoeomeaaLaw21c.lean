/-
  LAW 21: VolumeBack. No conditions.
-/
import Derived.Test.YtblbedffoeomeaaLaw21
import Derived.Test.YtblbedffoeomeaaVli
namespace Go.Proofs.Ytblbedffoeomeaa
open Go.RowKit
set_option maxRecDepth 100000
set_option linter.unusedVariables false

theorem SameV_c (A B : Option Addr) (n m ca cb : Nat) (a b : List F) (w : World) (ha : Row w A n a) (hb : Row w B m b) :
    Calls Try.prog 21 #[.slice A n ca, .slice B m cb] w fun e w' => e = .returned (.bool (decide (a = b))) ∧ ∃ q, w' = w.drewN q := by
  by_cases h : n = m
  · subst h
    exact Same_d A B n ca cb a b w ha hb
  · have hne : a ≠ b := fun e => h (by rw [← ha.len, ← hb.len, e])
    rw [decide_eq_false hne]
    refine (Same_len A B n m ca cb w h ha.max hb.max).mono ?_
    rintro e _ ⟨rfl, rfl⟩
    exact ⟨rfl, 0, rfl⟩
theorem SameE_c (A B : Option Addr) (n m ca cb : Nat) (a b : List F) (w : World) (ha : Row w A n a) (hb : Row w B m b) (he : a = b) :
    Calls Try.prog 21 #[.slice A n ca, .slice B m cb] w fun e w' => e = .returned (.bool true) ∧ ∃ q, w' = w.drewN q := by
  have h := SameV_c A B n m ca cb a b w ha hb
  rw [decide_eq_true he] at h
  exact h
theorem cutF_two (J : List F) (a m n : Nat) : cutF J a (m + n) = cutF J a m ++ cutF J (a + m) n := by
  unfold cutF
  have h := List.take_append_drop m ((J.drop a).take (m + n))
  rw [List.take_take, Nat.min_eq_left (by omega), List.drop_take, List.drop_drop, Nat.add_sub_cancel_left] at h
  exact h.symm
theorem lenTo_pos {RL : Nat → Nat} : ∀ n, 0 < lenTo RL n → ∃ r, r < n ∧ 0 < RL r
  | 0, h => absurd h (by simp [lenTo])
  | n + 1, h => by
    by_cases e : 0 < RL n
    · exact ⟨n, by omega, e⟩
    · have h2 : lenTo RL (n + 1) = lenTo RL n + RL n := rfl
      rw [h2] at h
      obtain ⟨r, h3, h4⟩ := lenTo_pos n (show 0 < lenTo RL n by omega)
      exact ⟨r, by omega, h4⟩
theorem not_same {n : Nat} {RL : Nat → Nat} {R R' : Nat → List F} (h : Turned n RL R R' n 0) (h0 : 0 < lenTo RL n) : ¬ sameT n (fun _ => true) R' n (fun _ => true) R := fun hs => by
  obtain ⟨r, hr, hp⟩ := lenTo_pos n h0
  have h2 := hs.2 r hr
  simp [sameS] at h2
  exact h.differs hr hp h2
theorem tin_of {w : World} {base g n c : Nat} {RA : Nat → Option Addr} {RL RC : Nat → Nat} {R : Nat → List F} (hV : RowV w g (n * 2) (tcv (fun _ => true) RA RL RC)) (hM : MyRows w base g RA RL RC R n) (hle : n ≤ c) (hmx : c ≤ maxLen) : TIn w (some ⟨g, 0, none⟩) n c (fun _ => true) RA RL RC R :=
  ⟨hle, hmx, fun _ => ⟨g, 0, rfl, hV.lt, fun r hr => by
    rw [Nat.zero_add]
    exact ⟨(hV.cell (i := r * 2) (by omega)).trans (by unfold tcv; rw [if_pos (by omega)]), (hV.cell (i := r * 2 + 1) (by omega)).trans (by unfold tcv; rw [if_neg (by omega), show (r * 2 + 1) / 2 = r by omega])⟩⟩, fun r hr => own_in (hM r hr).1⟩
theorem two_joins {J X Y : List F} {a m : Nat} (hX : X = cutF J 0 a) (hY : Y = cutF J a m) (h : J.length = a + m) : joinTo (two' X Y) 2 = J := by
  have h1 := cutF_two J 0 a m
  rw [Nat.zero_add, ← hX, ← hY] at h1
  show ([] ++ X) ++ Y = J
  rw [List.nil_append, ← h1]
  unfold cutF
  rw [List.drop_zero, List.take_of_length_le (by omega)]
theorem joinTo_at {RL : Nat → Nat} {R : Nat → List F} {n : Nat} (h : ∀ r, r < n → (R r).length = RL r) {d o : Nat} (hd : d < n) (ho : o < RL d) : (joinTo R n)[lenTo RL d + o]? = (R d)[o]? := by
  induction n with
  | zero => omega
  | succ k ih =>
    have hl := joinTo_length (R := R) h k (by omega)
    show (joinTo R k ++ R k)[_]? = _
    by_cases e : d = k
    · subst e
      rw [List.getElem?_append_right (by omega), hl, Nat.add_sub_cancel_left]
    · have := lenTo_in (RL := RL) (n := k) (d := d) (o := o) (by omega) ho
      rw [List.getElem?_append_left (by omega)]
      exact ih (fun r hr => h r (by omega)) (by omega)
theorem and4095 (x : Int) : ∃ z : Nat, z ≤ 4095 ∧ bits .and .i64 x 4095 = (z : Int) := by
  have h := andLow x 12 (by omega)
  refine ⟨(x % 4096).toNat, by omega, ?_⟩
  have e : ((2 ^ 12 - 1 : Nat) : Int) = 4095 := by decide
  rw [e] at h
  rw [h]
  omega
theorem own_tin {w : World} {base : Nat} {T : TypeId} {n : Nat} {TH : Nat → Bool} {RA : Nat → Option Addr} {RL RC : Nat → Nat} {R : Nat → List F} {v : Value} (hown : w.ownsRow base T 2 v n (tcs TH RA RL RC n)) (h : ∀ r, r < n → RowIn w (RA r) (RL r) (RC r) (R r)) : ∃ A2 c2, v = .slice A2 n c2 ∧ TIn w A2 n c2 TH RA RL RC R := by
  obtain ⟨A2, c2, rfl, hc, hA⟩ := own_shape2 hown
  refine ⟨A2, c2, rfl, hc.1, hc.2, fun h0 => ?_, h⟩
  obtain ⟨g, rfl, hg⟩ := hA h0
  refine ⟨g, 0, rfl, (hown.lt g rfl).2, fun r hr => ?_⟩
  obtain ⟨h1, h2⟩ := tcs_at (TH := TH) (RA := RA) (RL := RL) (RC := RC) n r hr
  rw [Nat.zero_add]
  exact ⟨(hown.cellAt (r * 2) (by omega)).trans h1, (hown.cellAt (r * 2 + 1) (by omega)).trans h2⟩
theorem two_cells (W : World) (v u : Value) (t : TypeId) (g : Nat) (hg : g = W.heap.size) : ∀ j x, [v, u][j]? = some x → (W.alloc (.cells #[v, u] t)).cell? ((⟨g, 0, none⟩ : Addr).add j) = some x := by
  subst hg
  intro j x hx
  have hK := Blk.new W t #[v, u]
  have e : (⟨W.heap.size, 0, none⟩ : Addr).add j = ⟨W.heap.size, j, none⟩ := by unfold Addr.add; split <;> simp_all
  rw [e, hK.cell j]
  simpa using hx
set_option maxHeartbeats 8000000 in
theorem back_main (w : World) (A : Option Addr) (n cap : Nat) (RA : Nat → Option Addr) (RL RC : Nat → Nat) (R : Nat → List F) (h : MIn w A n cap RA RL RC R) (hf : fewP n RL) (cut : Int) (hcut : (Lit.int .i64 cut).wf = true) :
    Calls Try.prog 4 #[.slice A n cap, .int .i64 cut] w fun e w' => e = .returned (.bool true) ∧ Below w.heap.size w w' := by
  have hN := lenTo_few hf n (Nat.le_refl _)
  have hn20 : n ≤ 20 := hf.1
  have hl : ∀ r, r < n → RL r ≤ 1048576 := fun r hr => by have := hf.2 r hr; omega
  have hrl : ∀ r, r < n → (R r).length = RL r := fun r hr => (h.row r hr).row.len
  have H := Lib.hid h
  have HL := Lib.hid hl
  have HRL := Lib.hid hrl
  have HD : Hid (decide (fewP n RL) = true) := decide_eq_true hf
  have HF := Lib.hid hf
  clear h hl hf hrl
  obtain ⟨N, HNE⟩ : ∃ N, Hid (N = lenTo RL n) := ⟨_, rfl⟩
  rw [← HNE.out] at hN
  go_enter Try.func4, Try.ntmps4
  go_wp2_with fail
  refine (alive21_c _).mono ?_
  rintro e W1 ⟨rfl, hb1⟩
  have HB1 := Lib.hid hb1
  clear hb1
  go_wp2_with fail
  refine (few_c (H.out.below HB1.out)).mono ?_
  rintro e _ ⟨rfl, rfl⟩
  have HB2 := HB1
  rw [HD.out]
  go_wp2_with fail
  refine (Size_c (H.out.below HB2.out) (by omega) HL.out).mono ?_
  rintro e _ ⟨rfl, rfl⟩
  rw [← HNE.out]
  have hN1 : IntKind.i64.wrap ((N : Int) + 1) = ((N + 1 : Nat) : Int) := by rw [IntWalk.i64_in _ (by omega)]; simp
  go_wp2
  go_loopw [30] (fun iv wr => ∃ k : Nat, k ≤ N + 1 ∧ iv = .int .i64 k ∧ Hid (Below w.heap.size w wr)) (fun iv _ => N + 1 - (intOf iv).toNat)
  case atStart => exact ⟨0, by omega, rfl, HB2⟩
  case round =>
    obtain ⟨k, hk, rfl, hb⟩ := hrel
    by_cases hlt : k < N + 1
    · have hkn : (k : Int) < (N : Int) + 1 := by omega
      go_wp2_with fail
      refine (Place_c (H.out.below hb.out) (by omega) HL.out k (by simp [Lit.wf, IntKind.min, IntKind.max, IntKind.signed, IntKind.bits]; omega)).mono ?_
      rintro e W3 ⟨d, o, ok, rfl, hP, hb3⟩
      have hba := (Below.refl W3.heap.size W3).alloc (Nat.le_refl _) (.cells (plC ((d : Nat) : Int) ((o : Nat) : Int)) 41)
      have HK := Lib.hid (Blk.new W3 41 (plC ((d : Nat) : Int) ((o : Nat) : Int)))
      have HB4 := Lib.hid ((hb.out.trans (hb3.mono hb.out.size)).trans (hba.mono (hb.out.trans (hb3.mono hb.out.size)).size))
      have HM4 := Lib.hid (H.out.below HB4.out)
      clear hba hb3 hb
      rcases hP with ⟨_, _, _, hno⟩ | ⟨rfl, rfl, rfl, hkN⟩ | ⟨rfl, hd, ho, hke⟩
      · have hx := HNE.out
        exact absurd hno (by omega)
      · have hkN2 : k = N := by have hx := HNE.out; omega
        subst hkN2
        have HIX := Lib.hid (IndexE_c HM4.out (by omega) HL.out)
        unfold plV plC at *
        go_wp2_with fail
        refine HIX.out.mono ?_
        rintro e W5 ⟨rfl, hb5⟩
        rw [← HNE.out]
        have HB5 := Lib.hid (HB4.out.trans (hb5.mono HB4.out.size))
        clear hb5 HB4 HIX HM4 HK hkN
        go_wp2_with fail
        go_quiet (fail)
        go_wp2
        go_roundw
        case rel => exact ⟨k + 1, by omega, by go_num, below_drewN HB5.out _⟩
        case measure => simp [intOf]
      · have hin := lenTo_in (RL := RL) hd ho
        have hkN2 : k < lenTo RL n := by omega
        have hkNi : (k : Int) < (N : Int) := by have hx := HNE.out; omega
        have hkLi : (k : Int) < ((lenTo RL n : Nat) : Int) := by omega
        have HKE : Hid (lenTo RL d + o = k) := by unfold Hid; omega
        have HJB : Hid (gt (R d) o = gt (joinTo R n) k) := by
          have h5 := joinTo_at HRL.out hd ho
          unfold Hid gt
          rw [List.getD_eq_getElem?_getD, List.getD_eq_getElem?_getD, ← HKE.out, h5]
        clear hke
        have HIX := Lib.hid (IndexI_c HM4.out (by omega) HL.out d o hd ho)
        obtain ⟨b1, o1, rfl, hl1, q1⟩ := HM4.out.at_ hd
        have hrow := (HM4.out.row d hd).row
        obtain ⟨b2, o2, hra, hl2, q2⟩ := hrow.at_ ho
        rw [hra] at q1
        have lg := HK.out.lt
        have c0 := show _ = some (Value.int .i64 d) from (HK.out.cell 0).trans rfl
        have c1 := show _ = some (Value.int .i64 o) from (HK.out.cell 1).trans rfl
        clear hrow hra HK
        unfold plV plC at *
        go_wp2_with fail
        generalize W3.alloc (.cells #[.int .i64 d, .int .i64 o] 41) = W4 at *
        generalize W3.heap.size = g4 at *
        refine HIX.out.mono ?_
        rintro e W5 ⟨rfl, hb5⟩
        rw [HKE.out]
        have HB5 := Lib.hid (HB4.out.trans (hb5.mono HB4.out.size))
        have HM5 := Lib.hid (HM4.out.below hb5)
        have y0 := (hb5.cell (p := ⟨g4, 0, none⟩) (by exact lg)).trans c0
        have y1 := (hb5.cell (p := ⟨g4, 1, none⟩) (by exact lg)).trans c1
        have y2 := (hb5.cell (p := ⟨b1, o1 + d, none⟩) (by exact hl1)).trans q1
        have y3 := (hb5.cell (p := ⟨b2, o2 + o, none⟩) (by exact hl2)).trans q2
        have z0 : g4 < W5.heap.size := by have := hb5.size; omega
        have z1 : b1 < W5.heap.size := by have := hb5.size; omega
        have z2 : b2 < W5.heap.size := by have := hb5.size; omega
        clear hb5 HB4 HIX HM4 c0 c1 q1 q2 lg hl1 hl2
        have hkNb : decide ((k : Int) < (N : Int)) = true := decide_eq_true hkNi
        have u1 : ¬ ((d : Int) < 0) := by omega
        have u2 : (d : Int) < (n : Int) := by omega
        have u3 : ¬ ((o : Int) < 0) := by omega
        have u4 : (o : Int) < (RL d : Int) := by omega
        go_wp2_with fail
        refine wp_region_held_drew (S := fun W' => W'.cell? ⟨g4, 0, none⟩ = some (.int .i64 d) ∧ W'.cell? ⟨g4, 1, none⟩ = some (.int .i64 o) ∧ W'.cell? ⟨b1, o1 + d, none⟩ = some (.slice (some ⟨b2, o2, none⟩) (RL d) (RC d)) ∧ W'.cell? ⟨b2, o2 + o, none⟩ = some (.int .u8 (gt (R d) o).n)) (by kernel_rfl) ?_ (fun hHeld => ?_)
        · go_keep
        refine wpAnyH_take (i := 0) (oi := { dst := some 56, op := _, type := _, pos := _, after := _, guard := _ }) (v := ?_) rfl (by kernel_rfl) (by kernel_rfl) (by kernel_rfl) (fun _ _ _ h => h) (Or.inl ⟨by rfl, ?_⟩) (by assumption) ?_
        rotate_left
        · intro w' hSw
          try dsimp only at hSw
          go_simp
          try with_reducible rfl
        try simp only [Act.put, List.setIfInBounds_toArray, List.set_cons_zero, List.set_cons_succ]
        refine wpAnyH_take (i := 1) (oi := { dst := some 57, op := _, type := _, pos := _, after := _, guard := _ }) (v := ?_) rfl (by kernel_rfl) (by kernel_rfl) (by kernel_rfl) (fun _ _ _ h => h) (Or.inl ⟨by rfl, ?_⟩) (by assumption) ?_
        rotate_left
        · intro w' hSw
          try dsimp only at hSw
          go_simp
          try with_reducible rfl
        try simp only [Act.put, List.setIfInBounds_toArray, List.set_cons_zero, List.set_cons_succ]
        refine wpAnyH_take (i := 2) (oi := { dst := some 58, op := _, type := _, pos := _, after := _, guard := _ }) (v := ?_) rfl (by kernel_rfl) (by kernel_rfl) (by kernel_rfl) (fun _ _ _ h => h) (Or.inl ⟨by rfl, ?_⟩) (by assumption) ?_
        rotate_left
        · intro w' hSw
          try dsimp only at hSw
          go_simp
          try with_reducible rfl
        try simp only [Act.put, List.setIfInBounds_toArray, List.set_cons_zero, List.set_cons_succ]
        refine wpAnyH_take (i := 3) (oi := { dst := some 59, op := _, type := _, pos := _, after := _, guard := _ }) (v := ?_) rfl (by kernel_rfl) (by kernel_rfl) (by kernel_rfl) (fun _ _ _ h => h) (Or.inl ⟨by rfl, ?_⟩) (by assumption) ?_
        rotate_left
        · intro w' hSw
          try dsimp only at hSw
          go_simp
          try with_reducible rfl
        try simp only [Act.put, List.setIfInBounds_toArray, List.set_cons_zero, List.set_cons_succ]
        refine wpAnyH_take (i := 4) (oi := { dst := some 60, op := _, type := _, pos := _, after := _, guard := _ }) (v := ?_) rfl (by kernel_rfl) (by kernel_rfl) (by kernel_rfl) (fun _ _ _ h => h) (Or.inl ⟨by rfl, ?_⟩) (by assumption) ?_
        rotate_left
        · intro w' hSw
          try dsimp only at hSw
          go_simp
          try with_reducible rfl
        try simp only [Act.put, List.setIfInBounds_toArray, List.set_cons_zero, List.set_cons_succ]
        refine wpAnyH_take (i := 5) (oi := { dst := some 61, op := _, type := _, pos := _, after := _, guard := _ }) (v := ?_) rfl (by kernel_rfl) (by kernel_rfl) (by kernel_rfl) (fun _ _ _ h => h) (Or.inl ⟨by rfl, ?_⟩) (by assumption) ?_
        rotate_left
        · intro w' hSw
          try dsimp only at hSw
          go_simp
          try with_reducible rfl
        try simp only [Act.put, List.setIfInBounds_toArray, List.set_cons_zero, List.set_cons_succ]
        refine wpAnyH_take (i := 6) (oi := { dst := some 62, op := _, type := _, pos := _, after := _, guard := _ }) (v := ?_) rfl (by kernel_rfl) (by kernel_rfl) (by kernel_rfl) (fun _ _ _ h => h) (Or.inl ⟨by rfl, ?_⟩) (by assumption) ?_
        rotate_left
        · intro w' hSw
          try dsimp only at hSw
          go_simp
          try with_reducible rfl
        try simp only [Act.put, List.setIfInBounds_toArray, List.set_cons_zero, List.set_cons_succ]
        refine wpAnyH_take (i := 7) (oi := { dst := some 63, op := _, type := _, pos := _, after := _, guard := _ }) (v := ?_) rfl (by kernel_rfl) (by kernel_rfl) (by kernel_rfl) (fun _ _ _ h => h) (Or.inl ⟨by rfl, ?_⟩) (by assumption) ?_
        rotate_left
        · intro w' hSw
          try dsimp only at hSw
          go_simp
          try with_reducible rfl
        try simp only [Act.put, List.setIfInBounds_toArray, List.set_cons_zero, List.set_cons_succ]
        refine wpAnyH_take (i := 8) (oi := { dst := some 64, op := _, type := _, pos := _, after := _, guard := _ }) (v := ?_) rfl (by kernel_rfl) (by kernel_rfl) (by kernel_rfl) (fun _ _ _ h => h) (Or.inl ⟨by rfl, ?_⟩) (by assumption) ?_
        rotate_left
        · intro w' hSw
          try dsimp only at hSw
          go_simp
          try with_reducible rfl
        try simp only [Act.put, List.setIfInBounds_toArray, List.set_cons_zero, List.set_cons_succ]
        refine wpAnyH_take (i := 9) (oi := { dst := some 65, op := _, type := _, pos := _, after := _, guard := _ }) (v := ?_) rfl (by kernel_rfl) (by kernel_rfl) (by kernel_rfl) (fun _ _ _ h => h) (Or.inl ⟨by rfl, ?_⟩) (by assumption) ?_
        rotate_left
        · intro w' hSw
          try dsimp only at hSw
          go_simp
          try with_reducible rfl
        try simp only [Act.put, List.setIfInBounds_toArray, List.set_cons_zero, List.set_cons_succ]
        refine wpAnyH_take (i := 10) (oi := { dst := some 66, op := _, type := _, pos := _, after := _, guard := _ }) (v := ?_) rfl (by kernel_rfl) (by kernel_rfl) (by kernel_rfl) (fun _ _ _ h => h) (Or.inl ⟨by rfl, ?_⟩) (by assumption) ?_
        rotate_left
        · intro w' hSw
          try dsimp only at hSw
          go_simp
          try with_reducible rfl
        try simp only [Act.put, List.setIfInBounds_toArray, List.set_cons_zero, List.set_cons_succ]
        refine wpAnyH_take (i := 11) (oi := { dst := some 67, op := _, type := _, pos := _, after := _, guard := _ }) (v := ?_) rfl (by kernel_rfl) (by kernel_rfl) (by kernel_rfl) (fun _ _ _ h => h) (Or.inl ⟨by rfl, ?_⟩) (by assumption) ?_
        rotate_left
        · intro w' hSw
          try dsimp only at hSw
          go_simp
          try with_reducible rfl
        try simp only [Act.put, List.setIfInBounds_toArray, List.set_cons_zero, List.set_cons_succ]
        refine wpAnyH_take (i := 12) (oi := { dst := some 68, op := _, type := _, pos := _, after := _, guard := _ }) (v := ?_) rfl (by kernel_rfl) (by kernel_rfl) (by kernel_rfl) (fun _ _ _ h => h) (Or.inl ⟨by rfl, ?_⟩) (by assumption) ?_
        rotate_left
        · intro w' hSw
          try dsimp only at hSw
          go_simp
          try with_reducible rfl
        try simp only [Act.put, List.setIfInBounds_toArray, List.set_cons_zero, List.set_cons_succ]
        refine wpAnyH_take (i := 13) (oi := { dst := some 69, op := _, type := _, pos := _, after := _, guard := _ }) (v := ?_) rfl (by kernel_rfl) (by kernel_rfl) (by kernel_rfl) (fun _ _ _ h => h) (Or.inl ⟨by rfl, ?_⟩) (by assumption) ?_
        rotate_left
        · intro w' hSw
          try dsimp only at hSw
          go_simp
          try with_reducible rfl
        try simp only [Act.put, List.setIfInBounds_toArray, List.set_cons_zero, List.set_cons_succ]
        refine wpAnyH_take (i := 15) (oi := { dst := some 71, op := _, type := _, pos := _, after := _, guard := _ }) (v := ?_) rfl (by kernel_rfl) (by kernel_rfl) (by kernel_rfl) (fun _ _ _ h => h) (Or.inl ⟨by rfl, ?_⟩) (by assumption) ?_
        rotate_left
        · intro w' hSw
          try dsimp only at hSw
          go_simp
          try with_reducible rfl
        try simp only [Act.put, List.setIfInBounds_toArray, List.set_cons_zero, List.set_cons_succ]
        refine wpAnyH_ready (rs := [14]) (by kernel_rfl) (by simp) ?_
        refine AllReadyH.cons (o := { dst := some 70, op := _, type := _, pos := _, after := _, guard := _ }) rfl (fun K hK => ?_) AllReadyH.nil
        go_simp
        go_at_call 19
        refine (Join_c (HM5.out.drewN 1) (by omega) HL.out).mono ?_
        rintro e wx ⟨gJ, cJ, rfl, hownJ, hbx⟩
        have hcJ := (hownJ.cellAt k (by omega)).trans (cs_at (by rw [joinTo_length HRL.out n (Nat.le_refl _)]; exact hkN2))
        rw [← HJB.out] at hcJ
        have HBX := Lib.hid ((below_drewN HB5.out 1).trans (hbx.mono HB5.out.size))
        try go_wp2_with fail
        refine hK.out _ _ ?_ (fun hHeld => ?_)
        · exact ⟨(hbx.cell (p := ⟨g4, 0, none⟩) (by exact z0)).trans y0, (hbx.cell (p := ⟨g4, 1, none⟩) (by exact z0)).trans y1, (hbx.cell (p := ⟨b1, o1 + d, none⟩) (by exact z1)).trans y2, (hbx.cell (p := ⟨b2, o2 + o, none⟩) (by exact z2)).trans y3⟩
        clear hK K
        try simp only [Act.put, List.setIfInBounds_toArray, List.set_cons_zero, List.set_cons_succ]
        refine wpAnyH_take (i := 16) (oi := { dst := some 72, op := _, type := _, pos := _, after := _, guard := _ }) (v := ?_) rfl (by kernel_rfl) (by kernel_rfl) (by kernel_rfl) (fun _ _ _ h => h) (Or.inl ⟨by rfl, ?_⟩) (by assumption) ?_
        rotate_left
        · intro w' hSw
          try dsimp only at hSw
          go_simp
          try with_reducible rfl
        try simp only [Act.put, List.setIfInBounds_toArray, List.set_cons_zero, List.set_cons_succ]
        refine wpAnyH_ready (rs := [17]) (by kernel_rfl) (by simp) ?_
        refine AllReadyH.cons (o := { dst := some 73, op := _, type := _, pos := _, after := _, guard := _ }) rfl (fun K hK => ?_) AllReadyH.nil
        go_simp
        try go_wp2_with fail
        refine hK.out _ _ ?_ (fun hHeld => ?_)
        · exact hHeld
        clear hK K
        try simp only [Act.put, List.setIfInBounds_toArray, List.set_cons_zero, List.set_cons_succ]
        refine wpAnyH_take (i := 18) (oi := { dst := some 74, op := _, type := _, pos := _, after := _, guard := _ }) (v := ?_) rfl (by kernel_rfl) (by kernel_rfl) (by kernel_rfl) (fun _ _ _ h => h) (Or.inl ⟨by rfl, ?_⟩) (by assumption) ?_
        rotate_left
        · intro w' hSw
          try dsimp only at hSw
          go_simp
          try with_reducible rfl
        try simp only [Act.put, List.setIfInBounds_toArray, List.set_cons_zero, List.set_cons_succ]
        refine wpAnyH_take (i := 19) (oi := { dst := some 75, op := _, type := _, pos := _, after := _, guard := _ }) (v := ?_) rfl (by kernel_rfl) (by kernel_rfl) (by kernel_rfl) (fun _ _ _ h => h) (Or.inl ⟨by rfl, ?_⟩) (by assumption) ?_
        rotate_left
        · intro w' hSw
          try dsimp only at hSw
          go_simp
          try with_reducible rfl
        try simp only [Act.put, List.setIfInBounds_toArray, List.set_cons_zero, List.set_cons_succ]
        refine wpAnyH_done (by kernel_rfl) ?_ _
        clear hbx hcJ hownJ hHeld
        go_wp2
        go_roundw
        case rel => exact ⟨k + 1, by omega, by go_num, HBX⟩
        case measure => simp [intOf]; omega
    · obtain rfl : k = N + 1 := by omega
      obtain ⟨z, hz, hzb⟩ := and4095 cut
      obtain ⟨c, hcN, hcm⟩ : ∃ c : Nat, c ≤ N ∧ (bits BinOp.and IntKind.i64 cut 4095).tmod ((N : Int) + 1) = (c : Int) := by
        refine ⟨z % (N + 1), by have := Nat.mod_lt z (show 0 < N + 1 by omega); omega, ?_⟩
        rw [hzb, Int.tmod_eq_emod_of_nonneg (by omega)]
        simp
      have hsub : IntKind.i64.wrap ((N : Int) - (c : Int)) = ((N - c : Nat) : Int) := by rw [IntWalk.i64_in _ (by omega)]; omega
      have HL2 : Hid (∀ r, r < n → RL r ≤ 100000) := fun r hr => by have := HF.out.2 r hr; omega
      clear hzb
      go_wp2_with fail
      refine (Bytes_c (H.out.below hb.out) (by omega) HL2.out 0 c (by decide) (by simp [Lit.wf, IntKind.min, IntKind.max, IntKind.signed, IntKind.bits]; omega)).mono ?_
      rintro e W3 (⟨a0, m0, A3, c3, ha, hm, _, rfl, hr3, hb3⟩ | ⟨hno, _, _⟩)
      case inr => exact absurd hno (by have hx := HNE.out; omega)
      obtain rfl : a0 = 0 := by omega
      obtain rfl : m0 = c := by omega
      have HR3 := Lib.hid hr3
      have HB3 := Lib.hid (hb.out.trans (hb3.mono hb.out.size))
      clear ha hm hr3 hb3 hb
      go_wp2_with fail
      refine (Bytes_c (H.out.below HB3.out) (by omega) HL2.out m0 ((N - m0 : Nat) : Int) (by simp [Lit.wf, IntKind.min, IntKind.max, IntKind.signed, IntKind.bits]; omega) (by simp [Lit.wf, IntKind.min, IntKind.max, IntKind.signed, IntKind.bits]; omega)).mono ?_
      rintro e W4 (⟨a0, m1, A4, c4, ha, hm, _, rfl, hr4, hb4⟩ | ⟨hno, _, _⟩)
      case inr => exact absurd hno (by have hx := HNE.out; omega)
      obtain rfl : a0 = m0 := by omega
      obtain ⟨M1, HM1⟩ : ∃ M1, Hid (M1 = N - a0) := ⟨_, rfl⟩
      obtain rfl : m1 = M1 := by rw [HM1.out]; omega
      have HR4 := Lib.hid hr4
      have HR3' := Lib.hid (HR3.out.below hb4)
      have HB4 := Lib.hid (HB3.out.trans (hb4.mono HB3.out.size))
      clear ha hm hr4 hb4 HR3 HB3
      obtain ⟨i0, hi, hz0, hz1, hz2⟩ := info_parts info_sl
      have HB5 := Lib.hid (HB4.out.alloc HB4.out.size (.cells #[] 27))
      have HO5 := Lib.hid (World.ownsRow_made (base := W4.heap.size) (e := 27) (size := 2) W4 #[] 0 (Nat.le_refl _) (Nat.zero_le _) rfl)
      have hb5 := (Below.refl W4.heap.size W4).alloc (Nat.le_refl _) (.cells #[] 27)
      have HR5 := Lib.hid (show Hid (RowIn W4 A3 a0 c3 _) ∧ Hid (RowIn W4 A4 m1 c4 _) from ⟨HR3', HR4⟩)
      clear hb5 HR3' HR4
      have hlem := H.out.le
      have hmx := H.out.nmax
      go_wp2
      go_loopw [15, 100] (fun tb iv wr => ∃ k : Nat, k ≤ n ∧ iv = .int .i64 k ∧ Hid (wr.ownsRow W4.heap.size 27 2 tb k (tcs (fun _ => true) RA RL RC k)) ∧ Hid (Below W4.heap.size W4 wr)) (fun _ iv _ => n - (intOf iv).toNat)
      case atStart => exact ⟨0, Nat.zero_le _, rfl, HO5, (Below.refl W4.heap.size W4).alloc (Nat.le_refl _) _⟩
      case round =>
        obtain ⟨k, hk, rfl, hown, hb4⟩ := hrel
        have hb := Lib.hid (HB4.out.trans (hb4.out.mono HB4.out.size))
        by_cases hlt : k < n
        · have hkn : (k : Int) < n := by omega
          obtain ⟨b1, o1, rfl, _, q1⟩ := (H.out.below hb.out).at_ hlt
          have HBB := Lib.hid (fun C => hb4.out.alloc hb4.out.size (.cells C 27))
          have HSZ : Hid (∀ C, W4.heap.size ≤ (wr.alloc (.cells C 27)).heap.size) := fun C => (HBB.out C).size
          go_wp2_with (at_builtin; refine wpList_append_own _ rfl _ _ 22 rfl W4.heap.size 27 i0 (.agg #[.bool false, .slice none 0 0]) 2 32 Try.underlying22 hi hz0 hz1 hz2 rfl (by decide) _ k _ rfl (hown.out.alloc _) ⟨wr.heap.size, 0, none⟩ 1 1 [.bool true, .slice (RA k) (RL k) (RC k)] rfl rfl (two_cells _ _ _ _ _ rfl) (by intro u hu; simp at hu; rcases hu with rfl | rfl <;> rfl) (by unfold maxLen; omega) (by omega) (HSZ.out _) ?_; intro v' w3 hown' hgrow hnil)
          go_roundw
          case rel => exact ⟨k + 1, by omega, by go_num, hown', (HBB.out _).grown hgrow (HSZ.out _) (fun q hq => (hown.out.lt q hq).1)⟩
          case measure => simp [intOf]; omega
        · obtain rfl : k = n := by omega
          obtain ⟨W5, hW5⟩ : ∃ W5, W5 = wr := ⟨_, rfl⟩
          subst hW5
          obtain ⟨A5, c5, rfl, hT5⟩ := own_tin hown.out (fun r hr => (H.out.below hb.out).row r hr)
          have HT5 := Lib.hid hT5
          have HO := Lib.hid (CloneO_c hT5 (by omega) HL.out)
          have HR6 := Lib.hid (And.intro (HR5.out.1.out.below hb4.out) (HR5.out.2.out.below hb4.out))
          clear hT5 hown HR5
          go_wp2_with fail
          refine HO.out.mono ?_
          rintro e W6 ⟨A6, c6, RA6, RC6, rfl, hle6, hmx6, hb6, hcl⟩
          have HB6 := Lib.hid (hb.out.trans (hb6.mono hb.out.size))
          have HCL := Lib.hid hcl
          have HT6 := Lib.hid (HT5.out.below hb6)
          have HR7 := Lib.hid (And.intro (HR6.out.1.below hb6) (HR6.out.2.below hb6))
          have HSZ0 : Hid (w.heap.size ≤ W5.heap.size) := hb.out.size
          have HB60 := Lib.hid hb6
          have HBW5 := hb
          clear hb6 hcl HO hb hb4
          go_wp2
          go_loopw [114] (fun iv wr => ∃ (i : Nat) (R' : Nat → List F), i ≤ k ∧ iv = .int .i64 i ∧ Hid (Turned k RL R R' i 0) ∧ Hid (0 < k → ∃ g, A6 = some ⟨g, 0, none⟩ ∧ W5.heap.size ≤ g ∧ RowV wr g (k * 2) (tcv (fun _ => true) RA6 RL RC6) ∧ MyRows wr W5.heap.size g RA6 RL RC6 R' k) ∧ Hid (Below W5.heap.size W5 wr)) (fun iv _ => k - (intOf iv).toNat)
          case atStart => exact ⟨0, R, Nat.zero_le _, rfl, fun r hr => ⟨HRL.out r hr, fun q hq => (if_neg (by omega)).symm⟩, HCL, HB60⟩
          case round =>
            obtain ⟨i, R', hi, rfl, hT, hC, hb⟩ := hrel
            by_cases hlt : i < k
            · have hik : (i : Int) < k := by omega
              obtain ⟨g, hA6, hg, hV, hM⟩ := hC.out (by omega)
              subst hA6
              have x0 : wr.cell? ⟨g, i * 2 + 1, none⟩ = some (.slice (RA6 i) (RL i) (RC6 i)) := (hV.cell (i := i * 2 + 1) (by omega)).trans (by unfold tcv; rw [if_neg (by omega), show (i * 2 + 1) / 2 = i by omega])
              have HV := Lib.hid hV
              have HM := Lib.hid hM
              have hlen := HL.out i hlt
              clear hV hM hC
              go_wp2
              clear x0
              go_loopw [123] (fun jv wr => ∃ (j : Nat) (R'' : Nat → List F), j ≤ RL i ∧ jv = .int .i64 j ∧ Hid (Turned k RL R R'' i j) ∧ Hid (RowV wr g (k * 2) (tcv (fun _ => true) RA6 RL RC6)) ∧ Hid (MyRows wr W5.heap.size g RA6 RL RC6 R'' k) ∧ Hid (Below W5.heap.size W5 wr)) (fun jv _ => RL i - (intOf jv).toNat)
              case atStart => exact ⟨0, R', Nat.zero_le _, rfl, hT, HV, HM, hb⟩
              case round =>
                obtain ⟨j, R'', hj, rfl, hT2, hV2, hM2, hb2⟩ := hrel
                have x0 : wr.cell? ⟨g, i * 2 + 1, none⟩ = some (.slice (RA6 i) (RL i) (RC6 i)) := (hV2.out.cell (i := i * 2 + 1) (by omega)).trans (by unfold tcv; rw [if_neg (by omega), show (i * 2 + 1) / 2 = i by omega])
                by_cases hjl : j < RL i
                · have hji : (j : Int) < (RL i : Int) := by omega
                  have hown := (hM2.out i hlt).1
                  obtain ⟨A', c', e, hc, hA⟩ := own_shape2 hown
                  injection e with e1 e2 e3
                  subst e1 e3
                  obtain ⟨q, hq, hqb⟩ := hA (by omega)
                  rw [hq] at hown x0
                  have x1 := (hown.cellAt j (by omega)).trans (cs_at (by rw [(hT2.out i hlt).1]; exact hjl))
                  have xf := hown.frozenAt j
                  have hx := bits_one (gt (R'' i) j)
                  have HT3 := Lib.hid (hT2.out.step hlt hjl)
                  have HM3 := Lib.hid (MyRows.store hM2.out hlt hq j (gt (R'' i) j + ofN 1))
                  have hqg : q ≠ g := ((hM2.out i hlt).2 q (by rw [hq]; rfl)).1
                  have HV3 := Lib.hid (hV2.out.setOther (a := ⟨q, j, none⟩) (fun e => hqg e.symm) (.int .u8 (gt (R'' i) j + ofN 1).n))
                  have HB3 := Lib.hid (hb2.out.setCell (p := ⟨q, j, none⟩) hqb (.int .u8 (gt (R'' i) j + ofN 1).n))
                  have HQ := Lib.hid hq
                  clear hown hA hqg hq
                  go_wp2
                  go_roundw
                  case rel => exact ⟨j + 1, _, by omega, by go_num, HT3, HV3, HM3, HB3⟩
                  case measure => simp [intOf]; omega
                · obtain rfl : j = RL i := by omega
                  have HT3 := Lib.hid hT2.out.row
                  go_wp2
                  go_roundw
                  case rel => exact ⟨i + 1, R'', by omega, by go_num, HT3, fun _ => ⟨g, rfl, hg, hV2.out, hM2.out⟩, hb2⟩
                  case measure => simp [intOf]; omega
            · have hik : i = k := by omega
              rw [hik] at hT
              have r3 := HR6.out.1.below hb.out
              have r4 := HR6.out.2.below hb.out
              have hBF := HBW5.out.trans (hb.out.mono HBW5.out.size)
              have hTT := HT5.out.below hb.out
              have hMR := H.out.below hBF
              have hMJ := rows_lit (w := wr) (n := 2) (RA := two' A3 A4) (RL := two' a0 m1) (RC := two' c3 c4) (R := two' (cutF (joinTo R k) 0 a0) (cutF (joinTo R k) a0 m1)) (fun r hr => by
                rcases (show r = 0 ∨ r = 1 by omega) with rfl | rfl
                · exact r3
                · exact r4) #[.slice A3 a0 c3, .slice A4 m1 c4] (fun r hr => by
                rcases (show r = 0 ∨ r = 1 by omega) with rfl | rfl <;> rfl) 25 (by unfold maxLen; omega)
              have hba := (Below.refl wr.heap.size wr).alloc (Nat.le_refl _) (.cells #[.slice A3 a0 c3, .slice A4 m1 c4] 25)
              have HMJ := Lib.hid hMJ
              have HBF := Lib.hid (hBF.trans (hba.mono hBF.size))
              have HTT := Lib.hid (hTT.below hba)
              have HMR := Lib.hid (hMR.below hba)
              have HBA := Lib.hid hba
              have hm1 := HM1.out
              have HJL := Lib.hid (joinTo_length HRL.out k (Nat.le_refl _))
              have HJJ : Hid (joinTo (two' (cutF (joinTo R k) 0 a0) (cutF (joinTo R k) a0 m1)) 2 = joinTo R k) := two_joins rfl rfl (by rw [HJL.out]; have := HNE.out; omega)
              have a9 : a0 ≤ 1200 := by omega
              have m9 : m1 ≤ 1200 := by omega
              clear r3 r4 hBF hTT hMR hMJ hba hm1
              subst hik
              go_wp2_with fail
              refine (Join_c HMJ.out (by omega) (fun r hr => by
                rcases (show r = 0 ∨ r = 1 by omega) with rfl | rfl
                · show a0 ≤ _; omega
                · show m1 ≤ _; omega)).mono ?_
              rintro e W8 ⟨g8, c8, rfl, ho8, hb8⟩
              rw [HJJ.out] at ho8
              have HO8 := Lib.hid (own_in ho8)
              have HMR8 := Lib.hid (HMR.out.below hb8)
              have HTT8 := Lib.hid (HTT.out.below hb8)
              have HBF8 := Lib.hid (HBF.out.trans (hb8.mono HBF.out.size))
              have HB8 := Lib.hid (HBA.out.trans (hb8.mono HBA.out.size))
              clear ho8 hb8 HMR HTT HBF HBA HMJ
              go_wp2_with fail
              refine (Join_c HMR8.out (by omega) HL.out).mono ?_
              rintro e W9 ⟨g9, c9, rfl, ho9, hb9⟩
              have HO9 := Lib.hid (own_in ho9)
              have HO8' := Lib.hid (HO8.out.below hb9)
              have HTT9 := Lib.hid (HTT8.out.below hb9)
              have HBF9 := Lib.hid (HBF8.out.trans (hb9.mono HBF8.out.size))
              have HB9 := Lib.hid (HB8.out.trans (hb9.mono HB8.out.size))
              clear ho9 hb9 HO8 HMR8 HTT8 HBF8 HB8
              go_wp2_with fail
              refine (SameE_c _ _ _ _ _ _ _ _ _ HO8'.out.row HO9.out.row rfl).mono ?_
              rintro e _ ⟨rfl, q, rfl⟩
              by_cases hz : N = 0
              · have z1 : ((N : Int) == 0) = true := by rw [beq_iff_eq]; omega
                have HBF10 := Lib.hid (below_drewN HBF9.out q)
                clear HO8' HO9
                go_wp2
                go_ret
                exact ⟨rfl, HBF10.out⟩
              · have z1 : ((N : Int) == 0) = false := by rw [beq_eq_false_iff_ne]; omega
                have h0 : 0 < lenTo RL i := by have := HNE.out; omega
                have hi0 : 0 < i := by
                  obtain ⟨r, hr, _⟩ := lenTo_pos i h0
                  omega
                obtain ⟨g, hA6, hg, hV, hM⟩ := hC.out hi0
                subst hA6
                have HS := Lib.hid (not_same hT.out h0)
                have HTO := Lib.hid (((tin_of hV hM hle6 hmx6).below HB9.out).drewN q)
                have HTT10 := Lib.hid (HTT9.out.drewN q)
                have HBF10 := Lib.hid (below_drewN HBF9.out q)
                clear HO8' HO9 hV hM hC HTT9 HBF9
                generalize W9.drewN q = W10 at *
                go_wp2_with fail
                refine (SameT21_c HTO.out HTT10.out.two).mono ?_
                rintro e W11 ⟨rfl, hb11⟩
                rw [decide_eq_false HS.out]
                have HBF11 := Lib.hid (HBF10.out.trans (hb11.mono HBF10.out.size))
                clear hb11
                go_wp2
                go_ret
                exact ⟨rfl, HBF11.out⟩
set_option maxHeartbeats 4000000 in
theorem walk_VolumeBack (w : World) (A : Option Addr) (n cap : Nat) (RA : Nat → Option Addr) (RL RC : Nat → Nat) (R : Nat → List F) (h : MIn w A n cap RA RL RC R) (cut : Int) (hcut : (Lit.int .i64 cut).wf = true) :
    Calls Try.prog 4 #[.slice A n cap, .int .i64 cut] w fun e w' => e = .returned (.bool true) ∧ Below w.heap.size w w' := by
  by_cases hf : fewP n RL
  · exact back_main w A n cap RA RL RC R h hf cut hcut
  · have HD : Hid (decide (fewP n RL) = false) := decide_eq_false hf
    have H := Lib.hid h
    clear hf h
    go_enter Try.func4, Try.ntmps4
    go_wp2_with fail
    refine (alive21_c _).mono ?_
    rintro e W1 ⟨rfl, hb1⟩
    have HB1 := Lib.hid hb1
    clear hb1
    go_wp2_with fail
    refine (few_c (H.out.below HB1.out)).mono ?_
    rintro e _ ⟨rfl, rfl⟩
    rw [HD.out]
    go_wp2
    go_ret
    exact ⟨rfl, HB1.out⟩
end Go.Proofs.Ytblbedffoeomeaa
