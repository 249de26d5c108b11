/-
  LAW 22: SpanFills: all volumes, one behind the other, are all that was written; a place that is told is where it stands. No conditions.
-/
import Derived.Test.YtkijagodedmipaaSpk
import Derived.Test.YtkijagodedmipaaLaw22a
namespace Go.Proofs.Ytkijagodedmipaa
open Go.RowKit
set_option maxRecDepth 100000
set_option linter.unusedVariables false

theorem joinTo_take (L : List (List F)) : ∀ k, k ≤ L.length → joinTo (fun r => L.getD r []) k = (L.take k).flatten
  | 0, _ => rfl
  | k + 1, h => by
    show joinTo (fun r => L.getD r []) k ++ L.getD k [] = _
    rw [joinTo_take L k (by omega), List.take_succ_eq_append_getElem (by omega), List.flatten_append]
    simp [List.getD_eq_getElem?_getD, List.getElem?_eq_getElem (show k < L.length by omega)]
theorem joinTo_all (v : Vs) : joinTo (vrow v) (v.P.length + 1) = v.flat := by
  have h := joinTo_take v.all (v.P.length + 1) (by rw [all_length]; exact Nat.le_refl _)
  rw [← all_length, List.take_length, all_length] at h
  exact h
theorem Held.rec_ (S : Nat) (v : Vs) (b : List F) : Held v (recF S v b).1 := by
  unfold recF
  split
  · exact Held.refl v
  · exact Held.put S v b
theorem flatten_le : ∀ (L : List (List F)) (x : List F), x ∈ L → x.length ≤ L.flatten.length
  | [], x, h => by cases h
  | y :: L, x, h => by
    rw [List.flatten_cons, List.length_append]
    rcases List.mem_cons.1 h with rfl | h
    · omega
    · have := flatten_le L x h; omega
theorem vrow_le (v : Vs) (r : Nat) : (vrow v r).length ≤ v.flat.length := by
  by_cases h : r < v.all.length
  · have e : vrow v r = v.all[r] := by simp [vrow, h]
    rw [e]
    exact flatten_le _ _ (List.getElem_mem h)
  · have e : vrow v r = [] := by simp [vrow, List.getD_eq_getElem?_getD, List.getElem?_eq_none (Nat.le_of_not_lt h)]
    rw [e]
    simp
theorem held_first {v : Vs} (h : Held v0 v) : 4 ≤ (vrow v 0).length := by
  have h1 := (h.2 0 (by decide)).length_le
  exact h1
/-- what is kept beside the writer: all bytes, places, records -/
structure FilR (w : World) (bs : Nat) (Fp : Nat → Prop) (v : Vs) (n : Nat) (RA : Nat → Option Addr) (RC : Nat → Nat) (R : Nat → List F) (ga na ca gp np cp gr cr : Nat) (D O J : Nat → Nat) : Prop where
  all : AllR w bs ga na ca v.flat
  pls : w.ownsRow bs 37 2 (.slice (some ⟨gp, 0, none⟩) np cp) np (pcs D O np)
  rcd : w.ownsRow bs 33 1 (.slice (some ⟨gr, 0, none⟩) np cr) np (rcs (fun i => RA (J i)) (fun i => R (J i)) (fun i => RC (J i)) np)
  fa : ¬ Fp ga
  fp : ¬ Fp gp
  fr : ¬ Fp gr
  ne : ga ≠ gp ∧ ga ≠ gr ∧ gp ≠ gr
  ok : ∀ i, i < np → J i < n ∧ Stands v (D i) (O i) (R (J i))
namespace FilR
variable {w w' : World} {bs : Nat} {Fp Fq : Nat → Prop} {v v' : Vs} {n : Nat} {RA : Nat → Option Addr} {RC : Nat → Nat} {R : Nat → List F} {ga na ca gp np cp gr cr : Nat} {D O J : Nat → Nat}
theorem plt (h : FilR w bs Fp v n RA RC R ga na ca gp np cp gr cr D O J) : gp < w.heap.size ∧ gr < w.heap.size := ⟨(h.pls.lt gp rfl).2, (h.rcd.lt gr rfl).2⟩
theorem blocks (h : FilR w bs Fp v n RA RC R ga na ca gp np cp gr cr D O J) (hs : w.heap.size ≤ w'.heap.size) (ha : w'.heap[ga]? = w.heap[ga]?) (hp : w'.heap[gp]? = w.heap[gp]?) (hr : w'.heap[gr]? = w.heap[gr]?) : FilR w' bs Fp v n RA RC R ga na ca gp np cp gr cr D O J :=
  ⟨h.all.blocks hs ha, own_block h.pls (fun k hk => by injection hk with hk; subst hk; exact hp), own_block h.rcd (fun k hk => by injection hk with hk; subst hk; exact hr), h.fa, h.fp, h.fr, h.ne, h.ok⟩
theorem below (h : FilR w bs Fp v n RA RC R ga na ca gp np cp gr cr D O J) (hb : Below w.heap.size w w') : FilR w' bs Fp v n RA RC R ga na ca gp np cp gr cr D O J :=
  h.blocks hb.size (hb.block _ h.all.lt) (hb.block _ h.plt.1) (hb.block _ h.plt.2)
theorem drewN (h : FilR w bs Fp v n RA RC R ga na ca gp np cp gr cr D O J) (q : Nat) : FilR (w.drewN q) bs Fp v n RA RC R ga na ca gp np cp gr cr D O J := h.blocks (Nat.le_refl _) rfl rfl rfl
/-- behind a writer's work that leaves these alone -/
theorem work (h : FilR w bs Fp v n RA RC R ga na ca gp np cp gr cr D O J) (hk : KeepF Fp w w') (hq : ∀ k, k < w.heap.size → Fq k → Fp k) : FilR w' bs Fq v n RA RC R ga na ca gp np cp gr cr D O J := by
  have h2 := h.blocks hk.size (hk.block _ h.all.lt h.fa) (hk.block _ h.plt.1 h.fp) (hk.block _ h.plt.2 h.fr)
  exact ⟨h2.all, h2.pls, h2.rcd, fun e => h.fa (hq _ h.all.lt e), fun e => h.fp (hq _ h.plt.1 e), fun e => h.fr (hq _ h.plt.2 e), h.ne, h.ok⟩
/-- with more bytes behind all -/
theorem more (h : FilR w bs Fp v n RA RC R ga na ca gp np cp gr cr D O J) (hF : ∀ k, Fp k → k < w.heap.size) (hv : Held v v') {ga' na' ca' : Nat} (ha : AllR w' bs ga' na' ca' v'.flat) (hk : KeepF (fun k => k = ga) w w') (hg : ga' = ga ∨ w.heap.size ≤ ga') : FilR w' bs Fp v' n RA RC R ga' na' ca' gp np cp gr cr D O J := by
  have hp := h.plt
  refine ⟨ha, own_block h.pls (fun k e => by injection e with e; subst e; exact hk.block _ hp.1 (fun e => h.ne.1 e.symm)), own_block h.rcd (fun k e => by injection e with e; subst e; exact hk.block _ hp.2 (fun e => h.ne.2.1 e.symm)), fun e => ?_, h.fp, h.fr, ⟨?_, ?_, h.ne.2.2⟩, fun i hi => ⟨(h.ok i hi).1, (h.ok i hi).2.held hv⟩⟩
  · rcases hg with g | g
    · subst g; exact h.fa e
    · have := hF _ e; omega
  · rcases hg with g | g
    · subst g; exact h.ne.1
    · omega
  · rcases hg with g | g
    · subst g; exact h.ne.2.1
    · omega
end FilR
/-- while places and records are appended to -/
structure St18 (W W0 : World) (lo base p S : Nat) (v : Vs) (Fp : Nat → Prop) (ga na ca gp np cp : Nat) (LP : List Value) (gr nr cr : Nat) (LQ : List Value) (q12 q8 : Nat) (C12 C8 : Array Value) : Prop where
  bel : Below lo W0 W
  los : lo ≤ base
  spw : Spw W base p S v Fp
  all : AllR W base ga na ca v.flat
  pls : W.ownsRow base 37 2 (.slice (some ⟨gp, 0, none⟩) np cp) np LP
  rcd : W.ownsRow base 33 1 (.slice (some ⟨gr, 0, none⟩) nr cr) nr LQ
  fa : ¬ Fp ga
  fp : ¬ Fp gp
  fr : ¬ Fp gr
  ne : ga ≠ gp ∧ ga ≠ gr ∧ gp ≠ gr
  b12 : Blk W q12 37 C12
  b8 : Blk W q8 35 C8
  n12 : q12 ≠ gp ∧ q12 ≠ gr
  n8 : q8 ≠ gp ∧ q8 ≠ gr
namespace St18
variable {W W0 w' : World} {lo base p S : Nat} {v : Vs} {Fp : Nat → Prop} {ga na ca gp np cp : Nat} {LP : List Value} {gr nr cr : Nat} {LQ : List Value} {q12 q8 : Nat} {C12 C8 : Array Value}
theorem belW (h : St18 W W0 lo base p S v Fp ga na ca gp np cp LP gr nr cr LQ q12 q8 C12 C8) (hb : Below W.heap.size W w') : St18 w' W0 lo base p S v Fp ga na ca gp np cp LP gr nr cr LQ q12 q8 C12 C8 :=
  ⟨h.bel.trans (hb.mono (by have := h.spw.plt; have := h.los; omega)), h.los, h.spw.below hb, h.all.below hb, own_block h.pls (fun k hk => hb.block k (h.pls.lt k hk).2), own_block h.rcd (fun k hk => hb.block k (h.rcd.lt k hk).2), h.fa, h.fp, h.fr, h.ne, h.b12.below h.b12.lt hb, h.b8.below h.b8.lt hb, h.n12, h.n8⟩
theorem gplt (h : St18 W W0 lo base p S v Fp ga na ca gp np cp LP gr nr cr LQ q12 q8 C12 C8) : base ≤ gp ∧ gp < W.heap.size := h.pls.lt gp rfl
theorem grlt (h : St18 W W0 lo base p S v Fp ga na ca gp np cp LP gr nr cr LQ q12 q8 C12 C8) : base ≤ gr ∧ gr < W.heap.size := h.rcd.lt gr rfl
theorem appP (h : St18 W W0 lo base p S v Fp ga na ca gp np cp LP gr nr cr LQ q12 q8 C12 C8) {g' n' c' : Nat} {LP' : List Value} (hown : w'.ownsRow base 37 2 (.slice (some ⟨g', 0, none⟩) n' c') n' LP') (hg : W.grownBy w' (some gp)) (hat : gp = g' ∨ W.heap.size ≤ g') :
    St18 w' W0 lo base p S v Fp ga na ca g' n' c' LP' gr nr cr LQ q12 q8 C12 C8 := by
  have hk : KeepF (fun k => k = gp) W w' := ⟨hg.os, hg.tape, hg.output, hg.size, fun k hk hn => hg.block k hk (fun e => by injection e with e; exact hn e)⟩
  have h1 := h.gplt
  have h2 := h.grlt
  have h3 := h.all.lt
  have h4 := h.b12.lt
  have h5 := h.b8.lt
  have hl := h.los
  refine ⟨h.bel.trans (hk.below (by have := h.spw.plt; omega) (fun k e => by omega)), h.los, h.spw.keepF hk (fun k hF e => h.fp (by rw [← e]; exact hF)), h.all.keepF hk h.ne.1, hown, own_block h.rcd (fun k e => by injection e with e; subst e; exact hk.block _ h2.2 (fun e => h.ne.2.2 e.symm)), h.fa, ?_, h.fr, ⟨?_, h.ne.2.1, ?_⟩, hk.blk h.b12 h.n12.1, hk.blk h.b8 h.n8.1, ⟨?_, h.n12.2⟩, ⟨?_, h.n8.2⟩⟩
  · rcases hat with e | e
    · rw [← e]; exact h.fp
    · exact fun hF => by have := (h.spw.sub _ hF).2; omega
  · rcases hat with e | e
    · rw [← e]; exact h.ne.1
    · omega
  · rcases hat with e | e
    · rw [← e]; exact h.ne.2.2
    · omega
  · rcases hat with e | e
    · rw [← e]; exact h.n12.1
    · omega
  · rcases hat with e | e
    · rw [← e]; exact h.n8.1
    · omega
theorem appQ (h : St18 W W0 lo base p S v Fp ga na ca gp np cp LP gr nr cr LQ q12 q8 C12 C8) {g' n' c' : Nat} {LQ' : List Value} (hown : w'.ownsRow base 33 1 (.slice (some ⟨g', 0, none⟩) n' c') n' LQ') (hg : W.grownBy w' (some gr)) (hat : gr = g' ∨ W.heap.size ≤ g') :
    St18 w' W0 lo base p S v Fp ga na ca gp np cp LP g' n' c' LQ' q12 q8 C12 C8 := by
  have hk : KeepF (fun k => k = gr) W w' := ⟨hg.os, hg.tape, hg.output, hg.size, fun k hk hn => hg.block k hk (fun e => by injection e with e; exact hn e)⟩
  have h1 := h.gplt
  have h2 := h.grlt
  have h3 := h.all.lt
  have h4 := h.b12.lt
  have h5 := h.b8.lt
  have hl := h.los
  refine ⟨h.bel.trans (hk.below (by have := h.spw.plt; omega) (fun k e => by omega)), h.los, h.spw.keepF hk (fun k hF e => h.fr (by rw [← e]; exact hF)), h.all.keepF hk h.ne.2.1, own_block h.pls (fun k e => by injection e with e; subst e; exact hk.block _ h1.2 h.ne.2.2), hown, h.fa, h.fp, ?_, ⟨h.ne.1, ?_, ?_⟩, hk.blk h.b12 h.n12.2, hk.blk h.b8 h.n8.2, ⟨h.n12.1, ?_⟩, ⟨h.n8.1, ?_⟩⟩
  · rcases hat with e | e
    · rw [← e]; exact h.fr
    · exact fun hF => by have := (h.spw.sub _ hF).2; omega
  · rcases hat with e | e
    · rw [← e]; exact h.ne.2.1
    · omega
  · rcases hat with e | e
    · rw [← e]; exact h.ne.2.2
    · omega
  · rcases hat with e | e
    · rw [← e]; exact h.n12.2
    · omega
  · rcases hat with e | e
    · rw [← e]; exact h.n8.2
    · omega
end St18
theorem upd_comp {α : Type} (f : Nat → α) (J : Nat → Nat) (n k : Nat) : (fun i => f (upd J n k i)) = upd (fun i => f (J i)) n (f k) := by
  funext i
  unfold upd
  split <;> rfl
theorem St18.fil {W W0 : World} {lo base p S : Nat} {v : Vs} {Fp : Nat → Prop} {ga na ca gp np cp gr cr q12 q8 n d o k RLk : Nat} {C12 C8 : Array Value} {RA : Nat → Option Addr} {RC : Nat → Nat} {R : Nat → List F} {D O J : Nat → Nat}
    (h : St18 W W0 lo base p S v Fp ga na ca gp (np + 1) cp (pcs D O np ++ [.int .i64 (d : Nat), .int .i64 (o : Nat)]) gr (np + 1) cr (rcs (fun i => RA (J i)) (fun i => R (J i)) (fun i => RC (J i)) np ++ [.slice (RA k) RLk (RC k)]) q12 q8 C12 C8) (hL : (R k).length = RLk) (hk : k < n) (hst : Stands v d o (R k)) (hok : ∀ i, i < np → J i < n ∧ Stands v (D i) (O i) (R (J i))) :
    FilR W base Fp v n RA RC R ga na ca gp (np + 1) cp gr cr (upd D np d) (upd O np o) (upd J np k) := by
  refine ⟨h.all, ?_, ?_, h.fa, h.fp, h.fr, h.ne, fun i hi => ?_⟩
  · rw [← pcs_snoc]; exact h.pls
  · rw [upd_comp RA, upd_comp R, upd_comp RC, ← rcs_snoc, hL]
    exact h.rcd
  · by_cases e : i = np
    · subst e
      rw [upd_at, upd_at, upd_at]
      exact ⟨hk, hst⟩
    · rw [upd_ne _ _ e, upd_ne _ _ e, upd_ne _ _ e]
      exact hok i (by omega)
theorem blk_cells2 {w : World} {q : Nat} {T : TypeId} {a b : Value} (h : Blk w q T #[a, b]) : ∀ j u, [a, b][j]? = some u → w.cell? ((⟨q, 0, none⟩ : Addr).add j) = some u := by
  intro j u hu
  have e : (⟨q, 0, none⟩ : Addr).add j = ⟨q, j, none⟩ := by unfold Addr.add; split <;> simp_all
  rw [e, h.cell j]
  simpa using hu
theorem blk_cells1 {w : World} {q : Nat} {T : TypeId} {a : Value} (h : Blk w q T #[a]) : ∀ j u, [a][j]? = some u → w.cell? ((⟨q, 0, none⟩ : Addr).add j) = some u := by
  intro j u hu
  have e : (⟨q, 0, none⟩ : Addr).add j = ⟨q, j, none⟩ := by unfold Addr.add; split <;> simp_all
  rw [e, h.cell j]
  simpa using hu
theorem info_plE : (Try.prog.info? 37).map (fun i => (i.zero, i.size, i.bytes)) = some (some (.agg #[.int .i64 0, .int .i64 0]), 2, 16) := by kernel_rfl
set_option maxHeartbeats 8000000 in
theorem fills_main (w : World) (S n cap : Nat) (A : Option Addr) (K : Nat → Int) (RA : Nat → Option Addr) (RL RC : Nat → Nat) (R : Nat → List F) (h : OIn w A n cap K RA RL RC R) (hf : fewO n RL) (hS5 : 5 ≤ S) (hS6 : S ≤ 16777216) :
    Calls Try.prog 4 #[.int .i64 S, .slice A n cap] w fun e w' => e = .returned (.bool true) ∧ Below w.heap.size w w' := by
  obtain ⟨i0, hi, hz0, hz1, hz2⟩ := info_parts info_u8
  obtain ⟨i1, hj, hy0, hy1, hy2⟩ := info_parts info_bsE
  obtain ⟨i2, hp, hx0, hx1, hx2⟩ := info_parts info_plE
  have H := Lib.hid h
  have HD : Hid (decide (fewO n RL) = true) := decide_eq_true hf
  have HF := Lib.hid hf
  clear h hf
  have hcv := fun (w : World) (C : Array Value) (n c : Nat) => Lib.run_convert_bytes_const (P := Try.prog) w 33 5 C n c Try.underlying33 Try.underlying5
  go_enter Try.func4, Try.ntmps4
  go_wp2_with fail
  refine (alive22_c _).mono ?_
  rintro e W1 ⟨rfl, hb1⟩
  have HB1 := Lib.hid hb1
  clear hb1
  go_wp2_with fail
  refine (New_c S (by simp [Lit.wf, IntKind.min, IntKind.max, IntKind.bits, IntKind.signed]; omega) W1).mono ?_
  rintro e W2 (⟨hno, _, _⟩ | ⟨S', p, hS, _, _, rfl, hb2, hs2⟩)
  case inl => exact absurd (if_neg (by omega)) hno
  obtain rfl : S' = S := by omega
  have HB2 := Lib.hid (HB1.out.trans (hb2.mono HB1.out.size))
  have HS2 := Lib.hid hs2
  have HBS : Hid (w.heap.size ≤ W1.heap.size) := HB1.out.size
  clear hb2 hs2 hS HB1
  generalize Fgrow (fun _ => False) W1.heap.size W2.heap.size = F2 at *
  generalize W1.heap.size = base at *
  go_wp2_with fail
  refine (few22_c (H.out.below HB2.out)).mono ?_
  rintro e W3 ⟨rfl, hb3⟩
  rw [HD.out]
  have HB3 := Lib.hid (HB2.out.trans (hb3.mono HB2.out.size))
  have HS3 := Lib.hid (HS2.out.below hb3)
  clear hb3 HS2 HB2
  have hn := H.out.nmax
  -- all, places, records
  have hb4 := (Below.refl W3.heap.size W3).alloc (Nat.le_refl _) (.cells #[.int .u8 80, .int .u8 75, .int .u8 7, .int .u8 8] 5 (4, 5))
  have hR4 := row_litM W3 pk4 4 W3.heap.size rfl rfl (by unfold maxLen; decide) #[.int .u8 80, .int .u8 75, .int .u8 7, .int .u8 8] rfl 5 (4, 5)
  have hbs : base ≤ W3.heap.size := by have := HS3.out.plt; omega
  have hA4 : AllR (W3.alloc (.cells #[.int .u8 80, .int .u8 75, .int .u8 7, .int .u8 8] 5 (4, 5))) base W3.heap.size 4 4 v0.flat := ⟨hR4, hbs, by simp, .inl ⟨rfl, Nat.le_refl _⟩⟩
  have hS4 := HS3.out.below hb4
  have hB4 := HB3.out.trans (hb4.mono HB3.out.size)
  have hz4 : (W3.alloc (.cells #[.int .u8 80, .int .u8 75, .int .u8 7, .int .u8 8] 5 (4, 5))).heap.size = W3.heap.size + 1 := by simp
  have hN4 : ¬ F2 W3.heap.size := fun h => by have := (HS3.out.sub _ h).2; omega
  have HA4 := Lib.hid hA4
  have HS4 := Lib.hid hS4
  have HB4 := Lib.hid hB4
  have HFF := Lib.hid (fun k (hk : F2 k) => (HS3.out.sub k hk).2)
  clear hb4 hR4 hA4 hS4 hB4 HS3 HB3
  go_wp2_with fail
  generalize W3.alloc (.cells #[.int .u8 80, .int .u8 75, .int .u8 7, .int .u8 8] 5 (4, 5)) = W4 at *
  have hb5 := (Below.refl W4.heap.size W4).alloc (Nat.le_refl _) (.cells #[] 37)
  have hb6 := (Below.refl (W4.alloc (.cells #[] 37)).heap.size (W4.alloc (.cells #[] 37))).alloc (Nat.le_refl _) (.cells #[] 33)
  have hz5 : (W4.alloc (.cells #[] 37)).heap.size = W3.heap.size + 1 + 1 := by simp [hz4]
  have hP5 : (W4.alloc (.cells #[] 37)).ownsRow base 37 2 (.slice (some ⟨W3.heap.size + 1, 0, none⟩) 0 0) 0 (pcs (fun _ => 0) (fun _ => 0) 0) := by
    rw [← hz4]; exact World.ownsRow_made W4 #[] 0 (by omega) (Nat.zero_le _) rfl
  have hQ6 : ((W4.alloc (.cells #[] 37)).alloc (.cells #[] 33)).ownsRow base 33 1 (.slice (some ⟨W3.heap.size + 1 + 1, 0, none⟩) 0 0) 0 (rcs (fun _ => RA 0) (fun _ => R 0) (fun _ => RC 0) 0) := by
    rw [← hz5]; exact World.ownsRow_made (W4.alloc (.cells #[] 37)) #[] 0 (by omega) (Nat.zero_le _) rfl
  have HFI := Lib.hid (show FilR ((W4.alloc (.cells #[] 37)).alloc (.cells #[] 33)) base F2 v0 n RA RC R W3.heap.size 4 4 (W3.heap.size + 1) 0 0 (W3.heap.size + 1 + 1) 0 (fun _ => 0) (fun _ => 0) (fun _ => 0) from
    ⟨(HA4.out.below hb5).below hb6, hP5.alloc _, hQ6, hN4, fun h => by have := HFF.out _ h; omega, fun h => by have := HFF.out _ h; omega, ⟨by omega, by omega, by omega⟩, fun i hi => by omega⟩)
  have HS6 := Lib.hid ((HS4.out.below hb5).below hb6)
  have HB6 := Lib.hid ((HB4.out.trans (hb5.mono HB4.out.size)).trans (hb6.mono (HB4.out.trans (hb5.mono HB4.out.size)).size))
  clear hb5 hb6 hz5 hP5 hQ6 hN4 HFF HA4 HS4 HB4 hz4 hcv
  generalize (W4.alloc (.cells #[] 37)).alloc (.cells #[] 33) = W6 at *
  generalize W3.heap.size = g3 at *
  clear hbs
  go_loopw [7, 8, 9, 40] (fun s7 s8 s9 iv wr => ∃ (k : Nat) (v : Vs) (Fp : Nat → Prop) (ga na ca gp np cp gr cr : Nat) (D O J : Nat → Nat), k ≤ n ∧ iv = .int .i64 k ∧ s7 = .slice (some ⟨ga, 0, none⟩) na ca ∧ s8 = .slice (some ⟨gp, 0, none⟩) np cp ∧ s9 = .slice (some ⟨gr, 0, none⟩) np cr ∧ Hid (Spw wr base p S' v Fp) ∧ Hid (FilR wr base Fp v n RA RC R ga na ca gp np cp gr cr D O J) ∧ Hid (VOk S' v) ∧ Hid (Held v0 v) ∧ Hid (v.flat.length ≤ 4 + 60 * k ∧ np ≤ k) ∧ Hid (Below w.heap.size w wr)) (fun _ _ _ iv _ => n - (intOf iv).toNat)
  case atStart => exact ⟨0, v0, F2, _, _, _, _, _, _, _, _, _, _, _, by omega, rfl, rfl, rfl, rfl, HS6, HFI, v0_ok hS5, Held.refl v0, (by unfold Hid; decide), HB6⟩
  case round =>
    clear HS6 HFI HB6
    obtain ⟨k, v, Fp, ga, na, ca, gp, np, cp, gr, cr, D, O, J, hk, rfl, rfl, rfl, rfl, hSp, hFi, hOk, hHe, hFl, hb⟩ := hrel
    by_cases hlt : k < n
    · have hkn : (k : Int) < n := by omega
      have hO := H.out.below hb.out
      obtain ⟨b1, o1, rfl, _, q0, q1⟩ := hO.at_ hlt
      have hrow := hO.row k hlt
      have hlk := HF.out.2 k hlt
      have hn20 := HF.out.1
      have hcnt := hOk.out.count
      have hfl := hFl.out.1
      have hnp := hFl.out.2
      have hna : v.flat.length = na := hFi.out.all.row.len
      have hP : v.P.length < 1300 := by omega
      have hna2 : na ≤ 1300 := by omega
      have hlenR : (R k).length = RL k := H.out.len hlt
      have hba := (Below.refl wr.heap.size wr).alloc (Nat.le_refl _) (.cells #[.int .i64 (K k), .slice (RA k) (RL k) (RC k)] 35)
      have HS4 := Lib.hid (hSp.out.below hba)
      have HI4 := Lib.hid (hFi.out.below hba)
      have HB4 := Lib.hid (hb.out.trans (hba.mono hb.out.size))
      have HR4 := Lib.hid (hrow.below hba)
      have HK8 := Lib.hid (Blk.new wr 35 #[.int .i64 (K k), .slice (RA k) (RL k) (RC k)])
      have HN8 : Hid (¬ Fp wr.heap.size) := fun h => by have := (hSp.out.sub _ h).2; omega
      have HG8 : Hid (ga ≠ wr.heap.size ∧ gp ≠ wr.heap.size ∧ gr ≠ wr.heap.size) := by have h1 := hFi.out.all.lt; have h2 := hFi.out.plt; unfold Hid; omega
      have HOK := Lib.hid hOk.out
      have HFAR : Hid (0 < RL k → ∀ x o, RA k = some ⟨x, o, none⟩ → ¬ Fp x) := fun h0 x o e h => by
        obtain ⟨b9, o9, e9, hl9, _⟩ := (H.out.row k hlt).row.at_ h0
        rw [e] at e9
        injection e9 with e9
        injection e9 with e9 _ _
        have := (HS4.out.sub x h).1
        have := HBS.out
        omega
      have HLR := Lib.hid hlenR
      have HNA := Lib.hid hna
      have z80 : (wr.alloc (.cells #[.int .i64 (K k), .slice (RA k) (RL k) (RC k)] 35)).cell? ⟨wr.heap.size, 0, none⟩ = some (.int .i64 (K k)) := HK8.out.cell 0
      have z81 : (wr.alloc (.cells #[.int .i64 (K k), .slice (RA k) (RL k) (RC k)] 35)).cell? ⟨wr.heap.size, 1, none⟩ = some (.slice (RA k) (RL k) (RC k)) := HK8.out.cell 1
      clear hba hO hrow hOk hSp hFi hcnt hb hlenR hna
      by_cases hK0 : K k = 0
      · have k0 : ((K k : Int) != 0) = false := by rw [hK0]; rfl
        clear hK0
        have HRC := Lib.hid (Record_c (c := RC k) HS4.out HOK.out hS6 (by omega) HR4.out.row HFAR.out)
        go_wp2_with fail
        refine HRC.out.mono ?_
        rintro e W7 hq
        obtain ⟨F7, rfl, hk7, hs7, hf7⟩ := hq.use
        have hOK7 := HOK.out.rec_ (R k)
        have hHE7 := hHe.out.trans (Held.rec_ S' v (R k))
        have HFL7 : Hid ((recF S' v (R k)).1.flat.length ≤ 4 + 60 * (k + 1)) := rec_flat_le (R k) hfl (by rw [HLR.out]; exact hlk)
        have HI7 := Lib.hid (HI4.out.work hk7 hf7)
        have HR7 := Lib.hid (HR4.out.keepF hk7 HFAR.out)
        have HK87 := Lib.hid (hk7.blk HK8.out HN8.out)
        have HOK7 := Lib.hid hOK7
        have HHE7 := Lib.hid hHE7
        have HS7 := Lib.hid hs7
        have HB7 := Lib.hid (HB4.out.trans (HS4.out.belowW hk7 HBS.out HB4.out.size))
        have HQ8 : Hid (wr.heap.size < W7.heap.size) := HK87.out.lt
        clear hq hk7 hs7 hf7 hOK7 hHE7 z80 z81 HS4 HI4 HB4 HR4 HK8 HRC
        generalize wr.heap.size = q8 at *
        by_cases hrec : RL k = 0 ∨ S' < RL k
        · have er : recF S' v (R k) = (v, 0, 0, 50) := if_pos (by rw [HLR.out]; exact hrec)
          rw [er] at HOK7 HHE7 HFL7 HS7 ⊢
          clear er hrec
          unfold plV plC
          have hba := (Below.refl W7.heap.size W7).alloc (Nat.le_refl _) (.cells #[.int .i64 0, .int .i64 0] 37)
          have HS9 := Lib.hid (HS7.out.below hba)
          have HI9 := Lib.hid (HI7.out.below hba)
          have HB9 := Lib.hid (HB7.out.trans (hba.mono HB7.out.size))
          have HFL9 : Hid (v.flat.length ≤ 4 + 60 * (k + 1) ∧ np ≤ k + 1) := ⟨HFL7.out, by omega⟩
          clear hba HS7 HI7 HB7 HK87
          go_wp2_with fail
          go_roundw
          case rel => exact ⟨k + 1, v, F7, ga, na, ca, gp, np, cp, gr, cr, D, O, J, by omega, by go_num, rfl, rfl, rfl, HS9, HI9, HOK7, HHE7, HFL9, HB9⟩
          case measure => simp [intOf]; omega
        · obtain ⟨d3, o3, e3⟩ : ∃ d o, vat S' v (RL k) = (d, o) := ⟨_, _, rfl⟩
          have er : recF S' v (R k) = (vput S' v (R k), d3, o3, 0) := by
            have e1 : recF S' v (R k) = (vput S' v (R k), (vat S' v (R k).length).1, (vat S' v (R k).length).2, 0) := if_neg (by rw [HLR.out]; exact hrec)
            rw [e1, HLR.out, e3]
          have hst : Stands (vput S' v (R k)) d3 o3 (R k) := by
            have h9 := Stands.put S' v (R k)
            rw [HLR.out, e3] at h9
            exact h9
          rw [er] at HOK7 HHE7 HFL7 HS7 ⊢
          have HST := Lib.hid hst
          have HFD : Hid ((vput S' v (R k)).flat = v.flat ++ R k) := flat_put S' v (R k)
          clear er hst e3
          unfold plV plC
          have hba := (Below.refl W7.heap.size W7).alloc (Nat.le_refl _) (.cells #[.int .i64 (d3 : Int), .int .i64 (o3 : Int)] 37)
          have HS8 := Lib.hid (HS7.out.below hba)
          have HI8 := Lib.hid (HI7.out.below hba)
          have HR8 := Lib.hid (HR7.out.below hba)
          have HB8 := Lib.hid (HB7.out.trans (hba.mono HB7.out.size))
          have HK88 := Lib.hid (HK87.out.below HK87.out.lt hba)
          have HK12 := Lib.hid (Blk.new W7 37 #[.int .i64 (d3 : Int), .int .i64 (o3 : Int)])
          have HG12 : Hid (ga ≠ W7.heap.size ∧ gp ≠ W7.heap.size ∧ gr ≠ W7.heap.size) := by have h1 := HI7.out.all.lt; have h2 := HI7.out.plt; unfold Hid; omega
          have HN12 : Hid (¬ F7 W7.heap.size) := fun h => by have := (HS7.out.sub _ h).2; omega
          have z81' : (W7.alloc (.cells #[.int .i64 (d3 : Int), .int .i64 (o3 : Int)] 37)).cell? ⟨q8, 1, none⟩ = some (.slice (RA k) (RL k) (RC k)) := HK88.out.cell 1
          have HBW : Hid (base ≤ (W7.alloc (.cells #[.int .i64 (d3 : Int), .int .i64 (o3 : Int)] 37)).heap.size) := by have := HS8.out.plt; unfold Hid; omega
          clear hba HS7 HI7 HB7 HK87 HR7
          go_wp2_with (at_builtin; refine wpList_append_all i0 hi hz0 hz1 hz2 rfl _ _ rfl base ga na ca v.flat HI8.out.all rfl (RA k) (RL k) (RC k) (R k) rfl HR8.out.row (by omega) HBW.out ?_; intro g9 c9 w9 hA9 hk9 hg9)
          generalize W7.alloc (.cells #[.int .i64 (d3 : Int), .int .i64 (o3 : Int)] 37) = W8 at *
          generalize W7.heap.size = q12 at *
          have hI9 := HI8.out.more (v' := vput S' v (R k)) (fun k hk => (HS8.out.sub k hk).2) (Held.put S' v (R k)) (by rw [HFD.out]; exact hA9) hk9 hg9
          have hS9 := HS8.out.keepF hk9 (fun k hF e => HI8.out.fa (by rw [← e]; exact hF))
          have hB9 := HB8.out.trans (hk9.below HB8.out.size (fun k e => by subst e; have := HI8.out.all.ge; have := HBS.out; omega))
          have HOK9 := Lib.hid (And.intro HOK7.out hI9.ok)
          have hV9 : St18 w9 w w.heap.size base p S' (vput S' v (R k)) F7 g9 (na + RL k) c9 gp np cp (pcs D O np) gr np cr (rcs (fun i => RA (J i)) (fun i => R (J i)) (fun i => RC (J i)) np) q12 q8 #[.int .i64 (d3 : Int), .int .i64 (o3 : Int)] #[.int .i64 (K k), .slice (RA k) (RL k) (RC k)] :=
            ⟨hB9, HBS.out, hS9, hI9.all, hI9.pls, hI9.rcd, hI9.fa, hI9.fp, hI9.fr, hI9.ne, hk9.blk HK12.out (fun e => HG12.out.1 e.symm), hk9.blk HK88.out (fun e => HG8.out.1 e.symm), ⟨fun e => HG12.out.2.1 e.symm, fun e => HG12.out.2.2 e.symm⟩, ⟨fun e => HG8.out.2.1 e.symm, fun e => HG8.out.2.2 e.symm⟩⟩
          have hV09 : St18 w9.drew w w.heap.size base p S' (vput S' v (R k)) F7 g9 (na + RL k) c9 gp np cp (pcs D O np) gr np cr (rcs (fun i => RA (J i)) (fun i => R (J i)) (fun i => RC (J i)) np) q12 q8 #[.int .i64 (d3 : Int), .int .i64 (o3 : Int)] #[.int .i64 (K k), .slice (RA k) (RL k) (RC k)] := hV9.belW (Below.refl _ _).drew
          have HC0 : Hid (w9.drew.cell? ⟨q12, 0, none⟩ = some (.int .i64 (d3 : Int)) ∧ w9.drew.cell? ⟨q12, 1, none⟩ = some (.int .i64 (o3 : Int)) ∧ w9.drew.cell? ⟨q8, 1, none⟩ = some (.slice (RA k) (RL k) (RC k))) := ⟨hV09.b12.cell 0, hV09.b12.cell 1, hV09.b8.cell 1⟩
          obtain ⟨V0, hVW⟩ : ∃ V0, V0 = w9.drew := ⟨_, rfl⟩
          have hV0 := hV09
          rw [← hVW] at hV0
          have HVW := Lib.hid hVW
          clear hA9 hk9 hg9 hI9 hS9 hB9 hV9 hV09 hVW HS8 HI8 HB8 HK88 HK12 HG12 HN12 HR8 z81' HG8 HN8
          refine cut_in (Z := ∀ (q75 q80 gp' cp' gr' cr' : Nat) (W : World), St18 W w w.heap.size base p S' (vput S' v (R k)) F7 g9 (na + RL k) c9 gp' (np + 1) cp' (pcs D O np ++ [.int .i64 (d3 : Nat), .int .i64 (o3 : Nat)]) gr' (np + 1) cr' (rcs (fun i => RA (J i)) (fun i => R (J i)) (fun i => RC (J i)) np ++ [.slice (RA k) (RL k) (RC k)]) q12 q8 #[.int .i64 (d3 : Int), .int .i64 (o3 : Int)] #[.int .i64 (K k), .slice (RA k) (RL k) (RC k)] → (?G : Nat → Nat → Nat → Nat → Nat → Nat → World → Prop) q75 q80 gp' cp' gr' cr' W) ?f ?z
          case f =>
            intro hREST
            have hRESTo := Lib.hid hREST
            clear hREST
            refine wp_region_held_drew (S := fun W' => W'.cell? ⟨q12, 0, none⟩ = some (.int .i64 (d3 : Int)) ∧ W'.cell? ⟨q12, 1, none⟩ = some (.int .i64 (o3 : Int)) ∧ W'.cell? ⟨q8, 1, none⟩ = some (.slice (RA k) (RL k) (RC k))) (by kernel_rfl) HC0.out (fun hC0 => ?_)
            rw [← HVW.out] at hC0 ⊢
            refine wpAnyH_take (i := 0) (oi := { dst := some 73, op := _, type := _, pos := _, after := _, guard := _ }) (v := ?_) rfl (by kernel_rfl) (by kernel_rfl) (by kernel_rfl) (fun _ _ _ h => h) (Or.inl ⟨by rfl, ?_⟩) (by assumption) ?_
            rotate_left
            · intro w' hSw
              try dsimp only at hSw
              go_simp
              try with_reducible rfl
            try simp only [Act.put, List.setIfInBounds_toArray, List.set_cons_zero, List.set_cons_succ]
            refine wpAnyH_take (i := 1) (oi := { dst := some 74, op := _, type := _, pos := _, after := _, guard := _ }) (v := ?_) rfl (by kernel_rfl) (by kernel_rfl) (by kernel_rfl) (fun _ _ _ h => h) (Or.inl ⟨by rfl, ?_⟩) (by assumption) ?_
            rotate_left
            · intro w' hSw
              try dsimp only at hSw
              go_simp
              try with_reducible rfl
            try simp only [Act.put, List.setIfInBounds_toArray, List.set_cons_zero, List.set_cons_succ]
            refine wpAnyH_take (i := 4) (oi := { dst := some 77, op := _, type := _, pos := _, after := _, guard := _ }) (v := ?_) rfl (by kernel_rfl) (by kernel_rfl) (by kernel_rfl) (fun _ _ _ h => h) (Or.inl ⟨by rfl, ?_⟩) (by assumption) ?_
            rotate_left
            · intro w' hSw
              try dsimp only at hSw
              go_simp
              try with_reducible rfl
            try simp only [Act.put, List.setIfInBounds_toArray, List.set_cons_zero, List.set_cons_succ]
            refine wpAnyH_take (i := 5) (oi := { dst := some 78, op := _, type := _, pos := _, after := _, guard := _ }) (v := ?_) rfl (by kernel_rfl) (by kernel_rfl) (by kernel_rfl) (fun _ _ _ h => h) (Or.inl ⟨by rfl, ?_⟩) (by assumption) ?_
            rotate_left
            · intro w' hSw
              try dsimp only at hSw
              go_simp
              try with_reducible rfl
            try simp only [Act.put, List.setIfInBounds_toArray, List.set_cons_zero, List.set_cons_succ]
            refine wpAnyH_take (i := 6) (oi := { dst := some 79, op := _, type := _, pos := _, after := _, guard := _ }) (v := ?_) rfl (by kernel_rfl) (by kernel_rfl) (by kernel_rfl) (fun _ _ _ h => h) (Or.inl ⟨by rfl, ?_⟩) (by assumption) ?_
            rotate_left
            · intro w' hSw
              try dsimp only at hSw
              go_simp
              try with_reducible rfl
            try simp only [Act.put, List.setIfInBounds_toArray, List.set_cons_zero, List.set_cons_succ]
            refine wpAnyH_ready (rs := [2, 7]) (by kernel_rfl) (by simp) ?_
            refine AllReadyH.cons (o := { dst := some 75, op := _, type := _, pos := _, after := _, guard := _ }) rfl (fun K hK => ?_) (AllReadyH.cons (o := { dst := some 80, op := _, type := _, pos := _, after := _, guard := _ }) rfl (fun K hK => ?_) (AllReadyH.nil))
            · skip
              have hba1 := (Below.refl V0.heap.size V0).alloc (Nat.le_refl _) (.cells #[.int .i64 (d3 : Int), .int .i64 (o3 : Int)] 37)
              have hH1 := St18.belW hV0 hba1
              have hB1 := Blk.new V0 37 #[.int .i64 (d3 : Int), .int .i64 (o3 : Int)]
              have hq1 := And.intro hV0.gplt.2 hV0.grlt.2
              go_simp
              refine hK.out _ _ ⟨hH1.b12.cell 0, hH1.b12.cell 1, hH1.b8.cell 1⟩ (fun hC1 => ?_)
              clear hK K hba1
              try simp only [Act.put, List.setIfInBounds_toArray, List.set_cons_zero, List.set_cons_succ]
              generalize V0.alloc (.cells #[.int .i64 (d3 : Int), .int .i64 (o3 : Int)] 37) = V1 at *
              generalize V0.heap.size = x1 at *
              refine wpAnyH_ready (rs := [3, 7]) (by kernel_rfl) (by simp) ?_
              refine AllReadyH.cons (o := { dst := some 76, op := _, type := _, pos := _, after := _, guard := _ }) rfl (fun K hK => ?_) (AllReadyH.cons (o := { dst := some 80, op := _, type := _, pos := _, after := _, guard := _ }) rfl (fun K hK => ?_) (AllReadyH.nil))
              · skip
                refine step_append_lies _ (by rfl) (.tmp 73) (.tmp 75) 51 (by rfl) base 37 i2 (.agg #[.int .i64 0, .int .i64 0]) 2 16 Try.underlying51 hp hx0 hx1 hx2 rfl (by decide) (.slice (some ⟨gp, 0, none⟩) np cp) np (pcs D O np) (by rfl) hH1.pls ⟨x1, 0, none⟩ 1 1 [.int .i64 (d3 : Int), .int .i64 (o3 : Int)] (by rfl) rfl (blk_cells2 hB1) (by intro u hu; simp at hu; rcases hu with rfl | rfl <;> rfl) (by decide) (by unfold maxLen; omega) (by omega) (Nat.le_of_lt (Nat.lt_of_le_of_lt hH1.spw.plt.1 hH1.spw.plt.2)) V1.heap.size (by rfl) ?_
                intro gp2 cp2 V2 hown2 hg2 hat2 hlt2
                have hH2 := St18.appP hH1 hown2 hg2 (hat2.imp (fun e => by injection e) (fun e => by omega))
                refine hK.out _ _ ⟨hH2.b12.cell 0, hH2.b12.cell 1, hH2.b8.cell 1⟩ (fun hC2 => ?_)
                clear hK K hg2 hat2 hlt2 hown2
                try simp only [Act.put, List.setIfInBounds_toArray, List.set_cons_zero, List.set_cons_succ]
                refine wpAnyH_ready (rs := [7]) (by kernel_rfl) (by simp) ?_
                refine AllReadyH.cons (o := { dst := some 80, op := _, type := _, pos := _, after := _, guard := _ }) rfl (fun K hK => ?_) (AllReadyH.nil)
                have hba3 := (Below.refl V2.heap.size V2).alloc (Nat.le_refl _) (.cells #[.slice (RA k) (RL k) (RC k)] 33)
                have hH3 := St18.belW hH2 hba3
                have hB3 := Blk.new V2 33 #[.slice (RA k) (RL k) (RC k)]
                have hq3 := And.intro hH2.gplt.2 hH2.grlt.2
                go_simp
                refine hK.out _ _ ⟨hH3.b12.cell 0, hH3.b12.cell 1, hH3.b8.cell 1⟩ (fun hC3 => ?_)
                clear hK K hba3
                try simp only [Act.put, List.setIfInBounds_toArray, List.set_cons_zero, List.set_cons_succ]
                generalize V2.alloc (.cells #[.slice (RA k) (RL k) (RC k)] 33) = V3 at *
                generalize V2.heap.size = x3 at *
                refine wpAnyH_ready (rs := [8]) (by kernel_rfl) (by simp) ?_
                refine AllReadyH.cons (o := { dst := some 81, op := _, type := _, pos := _, after := _, guard := _ }) rfl (fun K hK => ?_) (AllReadyH.nil)
                refine step_append_lies _ (by rfl) (.tmp 77) (.tmp 80) 29 (by rfl) base 33 i1 (.slice none 0 0) 1 24 Try.underlying29 hj hy0 hy1 hy2 rfl (by decide) (.slice (some ⟨gr, 0, none⟩) np cr) np (rcs (fun i => RA (J i)) (fun i => R (J i)) (fun i => RC (J i)) np) (by rfl) hH3.rcd ⟨x3, 0, none⟩ 1 1 [.slice (RA k) (RL k) (RC k)] (by rfl) rfl (blk_cells1 hB3) (by intro u hu; simp at hu; subst hu; rfl) (by decide) (by unfold maxLen; omega) (by omega) (Nat.le_of_lt (Nat.lt_of_le_of_lt hH3.spw.plt.1 hH3.spw.plt.2)) V3.heap.size (by rfl) ?_
                intro gr4 cr4 V4 hown4 hg4 hat4 hlt4
                have hH4 := St18.appQ hH3 hown4 hg4 (hat4.imp (fun e => by injection e) (fun e => by omega))
                refine hK.out _ _ ⟨hH4.b12.cell 0, hH4.b12.cell 1, hH4.b8.cell 1⟩ (fun hC4 => ?_)
                clear hK K hg4 hat4 hlt4 hown4
                try simp only [Act.put, List.setIfInBounds_toArray, List.set_cons_zero, List.set_cons_succ]
                refine wpAnyH_take (i := 9) (oi := { dst := some 8, op := _, type := _, pos := _, after := _, guard := _ }) (v := ?_) rfl (by kernel_rfl) (by kernel_rfl) (by kernel_rfl) (fun _ _ _ h => h) (Or.inl ⟨by rfl, ?_⟩) (by assumption) ?_
                rotate_left
                · intro w' hSw
                  try dsimp only at hSw
                  go_simp
                  try with_reducible rfl
                try simp only [Act.put, List.setIfInBounds_toArray, List.set_cons_zero, List.set_cons_succ]
                refine wpAnyH_take (i := 10) (oi := { dst := some 9, op := _, type := _, pos := _, after := _, guard := _ }) (v := ?_) rfl (by kernel_rfl) (by kernel_rfl) (by kernel_rfl) (fun _ _ _ h => h) (Or.inl ⟨by rfl, ?_⟩) (by assumption) ?_
                rotate_left
                · intro w' hSw
                  try dsimp only at hSw
                  go_simp
                  try with_reducible rfl
                try simp only [Act.put, List.setIfInBounds_toArray, List.set_cons_zero, List.set_cons_succ]
                refine wpAnyH_done (by kernel_rfl) ?_ _
                exact hRESTo.out.out x1 x3 gp2 cp2 gr4 cr4 V4 hH4
              · skip
                have hba5 := (Below.refl V1.heap.size V1).alloc (Nat.le_refl _) (.cells #[.slice (RA k) (RL k) (RC k)] 33)
                have hH5 := St18.belW hH1 hba5
                have hB5 := Blk.new V1 33 #[.slice (RA k) (RL k) (RC k)]
                have hq5 := And.intro hH1.gplt.2 hH1.grlt.2
                have fX5 := Blk.below hB1 hB1.lt hba5
                go_simp
                refine hK.out _ _ ⟨hH5.b12.cell 0, hH5.b12.cell 1, hH5.b8.cell 1⟩ (fun hC5 => ?_)
                clear hK K hba5
                try simp only [Act.put, List.setIfInBounds_toArray, List.set_cons_zero, List.set_cons_succ]
                generalize V1.alloc (.cells #[.slice (RA k) (RL k) (RC k)] 33) = V5 at *
                generalize V1.heap.size = x5 at *
                refine wpAnyH_ready (rs := [3]) (by kernel_rfl) (by simp) ?_
                refine AllReadyH.cons (o := { dst := some 76, op := _, type := _, pos := _, after := _, guard := _ }) rfl (fun K hK => ?_) (AllReadyH.nil)
                refine step_append_lies _ (by rfl) (.tmp 73) (.tmp 75) 51 (by rfl) base 37 i2 (.agg #[.int .i64 0, .int .i64 0]) 2 16 Try.underlying51 hp hx0 hx1 hx2 rfl (by decide) (.slice (some ⟨gp, 0, none⟩) np cp) np (pcs D O np) (by rfl) hH5.pls ⟨x1, 0, none⟩ 1 1 [.int .i64 (d3 : Int), .int .i64 (o3 : Int)] (by rfl) rfl (blk_cells2 fX5) (by intro u hu; simp at hu; rcases hu with rfl | rfl <;> rfl) (by decide) (by unfold maxLen; omega) (by omega) (Nat.le_of_lt (Nat.lt_of_le_of_lt hH5.spw.plt.1 hH5.spw.plt.2)) V5.heap.size (by rfl) ?_
                intro gp6 cp6 V6 hown6 hg6 hat6 hlt6
                have hH6 := St18.appP hH5 hown6 hg6 (hat6.imp (fun e => by injection e) (fun e => by omega))
                have fY6 := Blk.kept hB5 hg6 ⟨hB5.lt, fun e => by injection e with e; have e2 : gp = _ := e; omega⟩
                refine hK.out _ _ ⟨hH6.b12.cell 0, hH6.b12.cell 1, hH6.b8.cell 1⟩ (fun hC6 => ?_)
                clear hK K hg6 hat6 hlt6 hown6
                try simp only [Act.put, List.setIfInBounds_toArray, List.set_cons_zero, List.set_cons_succ]
                refine wpAnyH_ready (rs := [8]) (by kernel_rfl) (by simp) ?_
                refine AllReadyH.cons (o := { dst := some 81, op := _, type := _, pos := _, after := _, guard := _ }) rfl (fun K hK => ?_) (AllReadyH.nil)
                refine step_append_lies _ (by rfl) (.tmp 77) (.tmp 80) 29 (by rfl) base 33 i1 (.slice none 0 0) 1 24 Try.underlying29 hj hy0 hy1 hy2 rfl (by decide) (.slice (some ⟨gr, 0, none⟩) np cr) np (rcs (fun i => RA (J i)) (fun i => R (J i)) (fun i => RC (J i)) np) (by rfl) hH6.rcd ⟨x5, 0, none⟩ 1 1 [.slice (RA k) (RL k) (RC k)] (by rfl) rfl (blk_cells1 fY6) (by intro u hu; simp at hu; subst hu; rfl) (by decide) (by unfold maxLen; omega) (by omega) (Nat.le_of_lt (Nat.lt_of_le_of_lt hH6.spw.plt.1 hH6.spw.plt.2)) V6.heap.size (by rfl) ?_
                intro gr7 cr7 V7 hown7 hg7 hat7 hlt7
                have hH7 := St18.appQ hH6 hown7 hg7 (hat7.imp (fun e => by injection e) (fun e => by omega))
                refine hK.out _ _ ⟨hH7.b12.cell 0, hH7.b12.cell 1, hH7.b8.cell 1⟩ (fun hC7 => ?_)
                clear hK K hg7 hat7 hlt7 hown7
                try simp only [Act.put, List.setIfInBounds_toArray, List.set_cons_zero, List.set_cons_succ]
                refine wpAnyH_take (i := 9) (oi := { dst := some 8, op := _, type := _, pos := _, after := _, guard := _ }) (v := ?_) rfl (by kernel_rfl) (by kernel_rfl) (by kernel_rfl) (fun _ _ _ h => h) (Or.inl ⟨by rfl, ?_⟩) (by assumption) ?_
                rotate_left
                · intro w' hSw
                  try dsimp only at hSw
                  go_simp
                  try with_reducible rfl
                try simp only [Act.put, List.setIfInBounds_toArray, List.set_cons_zero, List.set_cons_succ]
                refine wpAnyH_take (i := 10) (oi := { dst := some 9, op := _, type := _, pos := _, after := _, guard := _ }) (v := ?_) rfl (by kernel_rfl) (by kernel_rfl) (by kernel_rfl) (fun _ _ _ h => h) (Or.inl ⟨by rfl, ?_⟩) (by assumption) ?_
                rotate_left
                · intro w' hSw
                  try dsimp only at hSw
                  go_simp
                  try with_reducible rfl
                try simp only [Act.put, List.setIfInBounds_toArray, List.set_cons_zero, List.set_cons_succ]
                refine wpAnyH_done (by kernel_rfl) ?_ _
                exact hRESTo.out.out x1 x5 gp6 cp6 gr7 cr7 V7 hH7
            · skip
              have hba8 := (Below.refl V0.heap.size V0).alloc (Nat.le_refl _) (.cells #[.slice (RA k) (RL k) (RC k)] 33)
              have hH8 := St18.belW hV0 hba8
              have hB8 := Blk.new V0 33 #[.slice (RA k) (RL k) (RC k)]
              have hq8 := And.intro hV0.gplt.2 hV0.grlt.2
              go_simp
              refine hK.out _ _ ⟨hH8.b12.cell 0, hH8.b12.cell 1, hH8.b8.cell 1⟩ (fun hC8 => ?_)
              clear hK K hba8
              try simp only [Act.put, List.setIfInBounds_toArray, List.set_cons_zero, List.set_cons_succ]
              generalize V0.alloc (.cells #[.slice (RA k) (RL k) (RC k)] 33) = V8 at *
              generalize V0.heap.size = x8 at *
              refine wpAnyH_ready (rs := [2]) (by kernel_rfl) (by simp) ?_
              refine AllReadyH.cons (o := { dst := some 75, op := _, type := _, pos := _, after := _, guard := _ }) rfl (fun K hK => ?_) (AllReadyH.nil)
              have hba9 := (Below.refl V8.heap.size V8).alloc (Nat.le_refl _) (.cells #[.int .i64 (d3 : Int), .int .i64 (o3 : Int)] 37)
              have hH9 := St18.belW hH8 hba9
              have hB9 := Blk.new V8 37 #[.int .i64 (d3 : Int), .int .i64 (o3 : Int)]
              have hq9 := And.intro hH8.gplt.2 hH8.grlt.2
              have fY9 := Blk.below hB8 hB8.lt hba9
              go_simp
              refine hK.out _ _ ⟨hH9.b12.cell 0, hH9.b12.cell 1, hH9.b8.cell 1⟩ (fun hC9 => ?_)
              clear hK K hba9
              try simp only [Act.put, List.setIfInBounds_toArray, List.set_cons_zero, List.set_cons_succ]
              generalize V8.alloc (.cells #[.int .i64 (d3 : Int), .int .i64 (o3 : Int)] 37) = V9 at *
              generalize V8.heap.size = x9 at *
              refine wpAnyH_ready (rs := [3]) (by kernel_rfl) (by simp) ?_
              refine AllReadyH.cons (o := { dst := some 76, op := _, type := _, pos := _, after := _, guard := _ }) rfl (fun K hK => ?_) (AllReadyH.nil)
              refine step_append_lies _ (by rfl) (.tmp 73) (.tmp 75) 51 (by rfl) base 37 i2 (.agg #[.int .i64 0, .int .i64 0]) 2 16 Try.underlying51 hp hx0 hx1 hx2 rfl (by decide) (.slice (some ⟨gp, 0, none⟩) np cp) np (pcs D O np) (by rfl) hH9.pls ⟨x9, 0, none⟩ 1 1 [.int .i64 (d3 : Int), .int .i64 (o3 : Int)] (by rfl) rfl (blk_cells2 hB9) (by intro u hu; simp at hu; rcases hu with rfl | rfl <;> rfl) (by decide) (by unfold maxLen; omega) (by omega) (Nat.le_of_lt (Nat.lt_of_le_of_lt hH9.spw.plt.1 hH9.spw.plt.2)) V9.heap.size (by rfl) ?_
              intro gp10 cp10 V10 hown10 hg10 hat10 hlt10
              have hH10 := St18.appP hH9 hown10 hg10 (hat10.imp (fun e => by injection e) (fun e => by omega))
              have fY10 := Blk.kept fY9 hg10 ⟨fY9.lt, fun e => by injection e with e; have e2 : gp = _ := e; omega⟩
              refine hK.out _ _ ⟨hH10.b12.cell 0, hH10.b12.cell 1, hH10.b8.cell 1⟩ (fun hC10 => ?_)
              clear hK K hg10 hat10 hlt10 hown10
              try simp only [Act.put, List.setIfInBounds_toArray, List.set_cons_zero, List.set_cons_succ]
              refine wpAnyH_ready (rs := [8]) (by kernel_rfl) (by simp) ?_
              refine AllReadyH.cons (o := { dst := some 81, op := _, type := _, pos := _, after := _, guard := _ }) rfl (fun K hK => ?_) (AllReadyH.nil)
              refine step_append_lies _ (by rfl) (.tmp 77) (.tmp 80) 29 (by rfl) base 33 i1 (.slice none 0 0) 1 24 Try.underlying29 hj hy0 hy1 hy2 rfl (by decide) (.slice (some ⟨gr, 0, none⟩) np cr) np (rcs (fun i => RA (J i)) (fun i => R (J i)) (fun i => RC (J i)) np) (by rfl) hH10.rcd ⟨x8, 0, none⟩ 1 1 [.slice (RA k) (RL k) (RC k)] (by rfl) rfl (blk_cells1 fY10) (by intro u hu; simp at hu; subst hu; rfl) (by decide) (by unfold maxLen; omega) (by omega) (Nat.le_of_lt (Nat.lt_of_le_of_lt hH10.spw.plt.1 hH10.spw.plt.2)) V10.heap.size (by rfl) ?_
              intro gr11 cr11 V11 hown11 hg11 hat11 hlt11
              have hH11 := St18.appQ hH10 hown11 hg11 (hat11.imp (fun e => by injection e) (fun e => by omega))
              refine hK.out _ _ ⟨hH11.b12.cell 0, hH11.b12.cell 1, hH11.b8.cell 1⟩ (fun hC11 => ?_)
              clear hK K hg11 hat11 hlt11 hown11
              try simp only [Act.put, List.setIfInBounds_toArray, List.set_cons_zero, List.set_cons_succ]
              refine wpAnyH_take (i := 9) (oi := { dst := some 8, op := _, type := _, pos := _, after := _, guard := _ }) (v := ?_) rfl (by kernel_rfl) (by kernel_rfl) (by kernel_rfl) (fun _ _ _ h => h) (Or.inl ⟨by rfl, ?_⟩) (by assumption) ?_
              rotate_left
              · intro w' hSw
                try dsimp only at hSw
                go_simp
                try with_reducible rfl
              try simp only [Act.put, List.setIfInBounds_toArray, List.set_cons_zero, List.set_cons_succ]
              refine wpAnyH_take (i := 10) (oi := { dst := some 9, op := _, type := _, pos := _, after := _, guard := _ }) (v := ?_) rfl (by kernel_rfl) (by kernel_rfl) (by kernel_rfl) (fun _ _ _ h => h) (Or.inl ⟨by rfl, ?_⟩) (by assumption) ?_
              rotate_left
              · intro w' hSw
                try dsimp only at hSw
                go_simp
                try with_reducible rfl
              try simp only [Act.put, List.setIfInBounds_toArray, List.set_cons_zero, List.set_cons_succ]
              refine wpAnyH_done (by kernel_rfl) ?_ _
              exact hRESTo.out.out x9 x8 gp10 cp10 gr11 cr11 V11 hH11
          case z =>
            intro q75 q80 gp' cp' gr' cr' W hfin
            have HI11 := Lib.hid (hfin.fil HLR.out hlt HST.out HOK9.out.2)
            have HS11 := Lib.hid hfin.spw
            have HB11 := Lib.hid hfin.bel
            have HFL9 : Hid ((vput S' v (R k)).flat.length ≤ 4 + 60 * (k + 1) ∧ np + 1 ≤ k + 1) := ⟨HFL7.out, by omega⟩
            clear hfin hV0 HC0
            go_wp2_with fail
            go_roundw
            case rel => exact ⟨k + 1, _, F7, g9, _, c9, gp', np + 1, cp', gr', cr', _, _, _, by omega, by go_num, rfl, rfl, rfl, HS11, HI11, HOK7, HHE7, HFL9, HB11⟩
            case measure => simp [intOf]; omega
      · have k0 : ((K k : Int) != 0) = true := by rw [bne_iff_ne]; exact hK0
        by_cases hK1 : K k = 1
        · have k1 : ((K k : Int) != 1) = false := by rw [hK1]; rfl
          clear hK0 hK1
          have HRC := Lib.hid (Record_c (c := RC k) HS4.out HOK.out hS6 (by omega) HR4.out.row HFAR.out)
          go_wp2_with fail
          refine HRC.out.mono ?_
          rintro e W7 hq
          obtain ⟨F7, rfl, hk7, hs7, hf7⟩ := hq.use
          have hOK7 := HOK.out.rec_ (R k)
          have hHE7 := hHe.out.trans (Held.rec_ S' v (R k))
          have HFL7 : Hid ((recF S' v (R k)).1.flat.length ≤ 4 + 60 * (k + 1)) := rec_flat_le (R k) hfl (by rw [HLR.out]; exact hlk)
          have HI7 := Lib.hid (HI4.out.work hk7 hf7)
          have HR7 := Lib.hid (HR4.out.keepF hk7 HFAR.out)
          have HK87 := Lib.hid (hk7.blk HK8.out HN8.out)
          have HOK7 := Lib.hid hOK7
          have HHE7 := Lib.hid hHE7
          have HS7 := Lib.hid hs7
          have HB7 := Lib.hid (HB4.out.trans (HS4.out.belowW hk7 HBS.out HB4.out.size))
          have HQ8 : Hid (wr.heap.size < W7.heap.size) := HK87.out.lt
          clear hq hk7 hs7 hf7 hOK7 hHE7 z80 z81 HS4 HI4 HB4 HR4 HK8 HRC
          generalize wr.heap.size = q8 at *
          by_cases hrec : RL k = 0 ∨ S' < RL k
          · have er : recF S' v (R k) = (v, 0, 0, 50) := if_pos (by rw [HLR.out]; exact hrec)
            rw [er] at HOK7 HHE7 HFL7 HS7 ⊢
            clear er hrec
            unfold plV plC
            have hba := (Below.refl W7.heap.size W7).alloc (Nat.le_refl _) (.cells #[.int .i64 0, .int .i64 0] 37)
            have HS9 := Lib.hid (HS7.out.below hba)
            have HI9 := Lib.hid (HI7.out.below hba)
            have HB9 := Lib.hid (HB7.out.trans (hba.mono HB7.out.size))
            have HFL9 : Hid (v.flat.length ≤ 4 + 60 * (k + 1) ∧ np ≤ k + 1) := ⟨HFL7.out, by omega⟩
            clear hba HS7 HI7 HB7 HK87
            go_wp2_with fail
            go_roundw
            case rel => exact ⟨k + 1, v, F7, ga, na, ca, gp, np, cp, gr, cr, D, O, J, by omega, by go_num, rfl, rfl, rfl, HS9, HI9, HOK7, HHE7, HFL9, HB9⟩
            case measure => simp [intOf]; omega
          · obtain ⟨d3, o3, e3⟩ : ∃ d o, vat S' v (RL k) = (d, o) := ⟨_, _, rfl⟩
            have er : recF S' v (R k) = (vput S' v (R k), d3, o3, 0) := by
              have e1 : recF S' v (R k) = (vput S' v (R k), (vat S' v (R k).length).1, (vat S' v (R k).length).2, 0) := if_neg (by rw [HLR.out]; exact hrec)
              rw [e1, HLR.out, e3]
            have hst : Stands (vput S' v (R k)) d3 o3 (R k) := by
              have h9 := Stands.put S' v (R k)
              rw [HLR.out, e3] at h9
              exact h9
            rw [er] at HOK7 HHE7 HFL7 HS7 ⊢
            have HST := Lib.hid hst
            have HFD : Hid ((vput S' v (R k)).flat = v.flat ++ R k) := flat_put S' v (R k)
            clear er hst e3
            unfold plV plC
            have hba := (Below.refl W7.heap.size W7).alloc (Nat.le_refl _) (.cells #[.int .i64 (d3 : Int), .int .i64 (o3 : Int)] 37)
            have HS8 := Lib.hid (HS7.out.below hba)
            have HI8 := Lib.hid (HI7.out.below hba)
            have HR8 := Lib.hid (HR7.out.below hba)
            have HB8 := Lib.hid (HB7.out.trans (hba.mono HB7.out.size))
            have HK88 := Lib.hid (HK87.out.below HK87.out.lt hba)
            have HK12 := Lib.hid (Blk.new W7 37 #[.int .i64 (d3 : Int), .int .i64 (o3 : Int)])
            have HG12 : Hid (ga ≠ W7.heap.size ∧ gp ≠ W7.heap.size ∧ gr ≠ W7.heap.size) := by have h1 := HI7.out.all.lt; have h2 := HI7.out.plt; unfold Hid; omega
            have HN12 : Hid (¬ F7 W7.heap.size) := fun h => by have := (HS7.out.sub _ h).2; omega
            have z81' : (W7.alloc (.cells #[.int .i64 (d3 : Int), .int .i64 (o3 : Int)] 37)).cell? ⟨q8, 1, none⟩ = some (.slice (RA k) (RL k) (RC k)) := HK88.out.cell 1
            have HBW : Hid (base ≤ (W7.alloc (.cells #[.int .i64 (d3 : Int), .int .i64 (o3 : Int)] 37)).heap.size) := by have := HS8.out.plt; unfold Hid; omega
            clear hba HS7 HI7 HB7 HK87 HR7
            go_wp2_with (at_builtin; refine wpList_append_all i0 hi hz0 hz1 hz2 rfl _ _ rfl base ga na ca v.flat HI8.out.all rfl (RA k) (RL k) (RC k) (R k) rfl HR8.out.row (by omega) HBW.out ?_; intro g9 c9 w9 hA9 hk9 hg9)
            generalize W7.alloc (.cells #[.int .i64 (d3 : Int), .int .i64 (o3 : Int)] 37) = W8 at *
            generalize W7.heap.size = q12 at *
            have hI9 := HI8.out.more (v' := vput S' v (R k)) (fun k hk => (HS8.out.sub k hk).2) (Held.put S' v (R k)) (by rw [HFD.out]; exact hA9) hk9 hg9
            have hS9 := HS8.out.keepF hk9 (fun k hF e => HI8.out.fa (by rw [← e]; exact hF))
            have hB9 := HB8.out.trans (hk9.below HB8.out.size (fun k e => by subst e; have := HI8.out.all.ge; have := HBS.out; omega))
            have HOK9 := Lib.hid (And.intro HOK7.out hI9.ok)
            have hV9 : St18 w9 w w.heap.size base p S' (vput S' v (R k)) F7 g9 (na + RL k) c9 gp np cp (pcs D O np) gr np cr (rcs (fun i => RA (J i)) (fun i => R (J i)) (fun i => RC (J i)) np) q12 q8 #[.int .i64 (d3 : Int), .int .i64 (o3 : Int)] #[.int .i64 (K k), .slice (RA k) (RL k) (RC k)] :=
              ⟨hB9, HBS.out, hS9, hI9.all, hI9.pls, hI9.rcd, hI9.fa, hI9.fp, hI9.fr, hI9.ne, hk9.blk HK12.out (fun e => HG12.out.1 e.symm), hk9.blk HK88.out (fun e => HG8.out.1 e.symm), ⟨fun e => HG12.out.2.1 e.symm, fun e => HG12.out.2.2 e.symm⟩, ⟨fun e => HG8.out.2.1 e.symm, fun e => HG8.out.2.2 e.symm⟩⟩
            have hV09 : St18 w9.drew w w.heap.size base p S' (vput S' v (R k)) F7 g9 (na + RL k) c9 gp np cp (pcs D O np) gr np cr (rcs (fun i => RA (J i)) (fun i => R (J i)) (fun i => RC (J i)) np) q12 q8 #[.int .i64 (d3 : Int), .int .i64 (o3 : Int)] #[.int .i64 (K k), .slice (RA k) (RL k) (RC k)] := hV9.belW (Below.refl _ _).drew
            have HC0 : Hid (w9.drew.cell? ⟨q12, 0, none⟩ = some (.int .i64 (d3 : Int)) ∧ w9.drew.cell? ⟨q12, 1, none⟩ = some (.int .i64 (o3 : Int)) ∧ w9.drew.cell? ⟨q8, 1, none⟩ = some (.slice (RA k) (RL k) (RC k))) := ⟨hV09.b12.cell 0, hV09.b12.cell 1, hV09.b8.cell 1⟩
            obtain ⟨V0, hVW⟩ : ∃ V0, V0 = w9.drew := ⟨_, rfl⟩
            have hV0 := hV09
            rw [← hVW] at hV0
            have HVW := Lib.hid hVW
            clear hA9 hk9 hg9 hI9 hS9 hB9 hV9 hV09 hVW HS8 HI8 HB8 HK88 HK12 HG12 HN12 HR8 z81' HG8 HN8
            refine cut_in (Z := ∀ (q75 q80 gp' cp' gr' cr' : Nat) (W : World), St18 W w w.heap.size base p S' (vput S' v (R k)) F7 g9 (na + RL k) c9 gp' (np + 1) cp' (pcs D O np ++ [.int .i64 (d3 : Nat), .int .i64 (o3 : Nat)]) gr' (np + 1) cr' (rcs (fun i => RA (J i)) (fun i => R (J i)) (fun i => RC (J i)) np ++ [.slice (RA k) (RL k) (RC k)]) q12 q8 #[.int .i64 (d3 : Int), .int .i64 (o3 : Int)] #[.int .i64 (K k), .slice (RA k) (RL k) (RC k)] → (?H : Nat → Nat → Nat → Nat → Nat → Nat → World → Prop) q75 q80 gp' cp' gr' cr' W) ?ff ?zz
            case ff =>
              intro hREST
              have hRESTo := Lib.hid hREST
              clear hREST
              refine wp_region_held_drew (S := fun W' => W'.cell? ⟨q12, 0, none⟩ = some (.int .i64 (d3 : Int)) ∧ W'.cell? ⟨q12, 1, none⟩ = some (.int .i64 (o3 : Int)) ∧ W'.cell? ⟨q8, 1, none⟩ = some (.slice (RA k) (RL k) (RC k))) (by kernel_rfl) HC0.out (fun hC0 => ?_)
              rw [← HVW.out] at hC0 ⊢
              refine wpAnyH_take (i := 0) (oi := { dst := some 73, op := _, type := _, pos := _, after := _, guard := _ }) (v := ?_) rfl (by kernel_rfl) (by kernel_rfl) (by kernel_rfl) (fun _ _ _ h => h) (Or.inl ⟨by rfl, ?_⟩) (by assumption) ?_
              rotate_left
              · intro w' hSw
                try dsimp only at hSw
                go_simp
                try with_reducible rfl
              try simp only [Act.put, List.setIfInBounds_toArray, List.set_cons_zero, List.set_cons_succ]
              refine wpAnyH_take (i := 1) (oi := { dst := some 74, op := _, type := _, pos := _, after := _, guard := _ }) (v := ?_) rfl (by kernel_rfl) (by kernel_rfl) (by kernel_rfl) (fun _ _ _ h => h) (Or.inl ⟨by rfl, ?_⟩) (by assumption) ?_
              rotate_left
              · intro w' hSw
                try dsimp only at hSw
                go_simp
                try with_reducible rfl
              try simp only [Act.put, List.setIfInBounds_toArray, List.set_cons_zero, List.set_cons_succ]
              refine wpAnyH_take (i := 4) (oi := { dst := some 77, op := _, type := _, pos := _, after := _, guard := _ }) (v := ?_) rfl (by kernel_rfl) (by kernel_rfl) (by kernel_rfl) (fun _ _ _ h => h) (Or.inl ⟨by rfl, ?_⟩) (by assumption) ?_
              rotate_left
              · intro w' hSw
                try dsimp only at hSw
                go_simp
                try with_reducible rfl
              try simp only [Act.put, List.setIfInBounds_toArray, List.set_cons_zero, List.set_cons_succ]
              refine wpAnyH_take (i := 5) (oi := { dst := some 78, op := _, type := _, pos := _, after := _, guard := _ }) (v := ?_) rfl (by kernel_rfl) (by kernel_rfl) (by kernel_rfl) (fun _ _ _ h => h) (Or.inl ⟨by rfl, ?_⟩) (by assumption) ?_
              rotate_left
              · intro w' hSw
                try dsimp only at hSw
                go_simp
                try with_reducible rfl
              try simp only [Act.put, List.setIfInBounds_toArray, List.set_cons_zero, List.set_cons_succ]
              refine wpAnyH_take (i := 6) (oi := { dst := some 79, op := _, type := _, pos := _, after := _, guard := _ }) (v := ?_) rfl (by kernel_rfl) (by kernel_rfl) (by kernel_rfl) (fun _ _ _ h => h) (Or.inl ⟨by rfl, ?_⟩) (by assumption) ?_
              rotate_left
              · intro w' hSw
                try dsimp only at hSw
                go_simp
                try with_reducible rfl
              try simp only [Act.put, List.setIfInBounds_toArray, List.set_cons_zero, List.set_cons_succ]
              refine wpAnyH_ready (rs := [2, 7]) (by kernel_rfl) (by simp) ?_
              refine AllReadyH.cons (o := { dst := some 75, op := _, type := _, pos := _, after := _, guard := _ }) rfl (fun K hK => ?_) (AllReadyH.cons (o := { dst := some 80, op := _, type := _, pos := _, after := _, guard := _ }) rfl (fun K hK => ?_) (AllReadyH.nil))
              · skip
                have hba1 := (Below.refl V0.heap.size V0).alloc (Nat.le_refl _) (.cells #[.int .i64 (d3 : Int), .int .i64 (o3 : Int)] 37)
                have hH1 := St18.belW hV0 hba1
                have hB1 := Blk.new V0 37 #[.int .i64 (d3 : Int), .int .i64 (o3 : Int)]
                have hq1 := And.intro hV0.gplt.2 hV0.grlt.2
                go_simp
                refine hK.out _ _ ⟨hH1.b12.cell 0, hH1.b12.cell 1, hH1.b8.cell 1⟩ (fun hC1 => ?_)
                clear hK K hba1
                try simp only [Act.put, List.setIfInBounds_toArray, List.set_cons_zero, List.set_cons_succ]
                generalize V0.alloc (.cells #[.int .i64 (d3 : Int), .int .i64 (o3 : Int)] 37) = V1 at *
                generalize V0.heap.size = x1 at *
                refine wpAnyH_ready (rs := [3, 7]) (by kernel_rfl) (by simp) ?_
                refine AllReadyH.cons (o := { dst := some 76, op := _, type := _, pos := _, after := _, guard := _ }) rfl (fun K hK => ?_) (AllReadyH.cons (o := { dst := some 80, op := _, type := _, pos := _, after := _, guard := _ }) rfl (fun K hK => ?_) (AllReadyH.nil))
                · skip
                  refine step_append_lies _ (by rfl) (.tmp 73) (.tmp 75) 51 (by rfl) base 37 i2 (.agg #[.int .i64 0, .int .i64 0]) 2 16 Try.underlying51 hp hx0 hx1 hx2 rfl (by decide) (.slice (some ⟨gp, 0, none⟩) np cp) np (pcs D O np) (by rfl) hH1.pls ⟨x1, 0, none⟩ 1 1 [.int .i64 (d3 : Int), .int .i64 (o3 : Int)] (by rfl) rfl (blk_cells2 hB1) (by intro u hu; simp at hu; rcases hu with rfl | rfl <;> rfl) (by decide) (by unfold maxLen; omega) (by omega) (Nat.le_of_lt (Nat.lt_of_le_of_lt hH1.spw.plt.1 hH1.spw.plt.2)) V1.heap.size (by rfl) ?_
                  intro gp2 cp2 V2 hown2 hg2 hat2 hlt2
                  have hH2 := St18.appP hH1 hown2 hg2 (hat2.imp (fun e => by injection e) (fun e => by omega))
                  refine hK.out _ _ ⟨hH2.b12.cell 0, hH2.b12.cell 1, hH2.b8.cell 1⟩ (fun hC2 => ?_)
                  clear hK K hg2 hat2 hlt2 hown2
                  try simp only [Act.put, List.setIfInBounds_toArray, List.set_cons_zero, List.set_cons_succ]
                  refine wpAnyH_ready (rs := [7]) (by kernel_rfl) (by simp) ?_
                  refine AllReadyH.cons (o := { dst := some 80, op := _, type := _, pos := _, after := _, guard := _ }) rfl (fun K hK => ?_) (AllReadyH.nil)
                  have hba3 := (Below.refl V2.heap.size V2).alloc (Nat.le_refl _) (.cells #[.slice (RA k) (RL k) (RC k)] 33)
                  have hH3 := St18.belW hH2 hba3
                  have hB3 := Blk.new V2 33 #[.slice (RA k) (RL k) (RC k)]
                  have hq3 := And.intro hH2.gplt.2 hH2.grlt.2
                  go_simp
                  refine hK.out _ _ ⟨hH3.b12.cell 0, hH3.b12.cell 1, hH3.b8.cell 1⟩ (fun hC3 => ?_)
                  clear hK K hba3
                  try simp only [Act.put, List.setIfInBounds_toArray, List.set_cons_zero, List.set_cons_succ]
                  generalize V2.alloc (.cells #[.slice (RA k) (RL k) (RC k)] 33) = V3 at *
                  generalize V2.heap.size = x3 at *
                  refine wpAnyH_ready (rs := [8]) (by kernel_rfl) (by simp) ?_
                  refine AllReadyH.cons (o := { dst := some 81, op := _, type := _, pos := _, after := _, guard := _ }) rfl (fun K hK => ?_) (AllReadyH.nil)
                  refine step_append_lies _ (by rfl) (.tmp 77) (.tmp 80) 29 (by rfl) base 33 i1 (.slice none 0 0) 1 24 Try.underlying29 hj hy0 hy1 hy2 rfl (by decide) (.slice (some ⟨gr, 0, none⟩) np cr) np (rcs (fun i => RA (J i)) (fun i => R (J i)) (fun i => RC (J i)) np) (by rfl) hH3.rcd ⟨x3, 0, none⟩ 1 1 [.slice (RA k) (RL k) (RC k)] (by rfl) rfl (blk_cells1 hB3) (by intro u hu; simp at hu; subst hu; rfl) (by decide) (by unfold maxLen; omega) (by omega) (Nat.le_of_lt (Nat.lt_of_le_of_lt hH3.spw.plt.1 hH3.spw.plt.2)) V3.heap.size (by rfl) ?_
                  intro gr4 cr4 V4 hown4 hg4 hat4 hlt4
                  have hH4 := St18.appQ hH3 hown4 hg4 (hat4.imp (fun e => by injection e) (fun e => by omega))
                  refine hK.out _ _ ⟨hH4.b12.cell 0, hH4.b12.cell 1, hH4.b8.cell 1⟩ (fun hC4 => ?_)
                  clear hK K hg4 hat4 hlt4 hown4
                  try simp only [Act.put, List.setIfInBounds_toArray, List.set_cons_zero, List.set_cons_succ]
                  refine wpAnyH_take (i := 9) (oi := { dst := some 8, op := _, type := _, pos := _, after := _, guard := _ }) (v := ?_) rfl (by kernel_rfl) (by kernel_rfl) (by kernel_rfl) (fun _ _ _ h => h) (Or.inl ⟨by rfl, ?_⟩) (by assumption) ?_
                  rotate_left
                  · intro w' hSw
                    try dsimp only at hSw
                    go_simp
                    try with_reducible rfl
                  try simp only [Act.put, List.setIfInBounds_toArray, List.set_cons_zero, List.set_cons_succ]
                  refine wpAnyH_take (i := 10) (oi := { dst := some 9, op := _, type := _, pos := _, after := _, guard := _ }) (v := ?_) rfl (by kernel_rfl) (by kernel_rfl) (by kernel_rfl) (fun _ _ _ h => h) (Or.inl ⟨by rfl, ?_⟩) (by assumption) ?_
                  rotate_left
                  · intro w' hSw
                    try dsimp only at hSw
                    go_simp
                    try with_reducible rfl
                  try simp only [Act.put, List.setIfInBounds_toArray, List.set_cons_zero, List.set_cons_succ]
                  refine wpAnyH_done (by kernel_rfl) ?_ _
                  exact hRESTo.out.out x1 x3 gp2 cp2 gr4 cr4 V4 hH4
                · skip
                  have hba5 := (Below.refl V1.heap.size V1).alloc (Nat.le_refl _) (.cells #[.slice (RA k) (RL k) (RC k)] 33)
                  have hH5 := St18.belW hH1 hba5
                  have hB5 := Blk.new V1 33 #[.slice (RA k) (RL k) (RC k)]
                  have hq5 := And.intro hH1.gplt.2 hH1.grlt.2
                  have fX5 := Blk.below hB1 hB1.lt hba5
                  go_simp
                  refine hK.out _ _ ⟨hH5.b12.cell 0, hH5.b12.cell 1, hH5.b8.cell 1⟩ (fun hC5 => ?_)
                  clear hK K hba5
                  try simp only [Act.put, List.setIfInBounds_toArray, List.set_cons_zero, List.set_cons_succ]
                  generalize V1.alloc (.cells #[.slice (RA k) (RL k) (RC k)] 33) = V5 at *
                  generalize V1.heap.size = x5 at *
                  refine wpAnyH_ready (rs := [3]) (by kernel_rfl) (by simp) ?_
                  refine AllReadyH.cons (o := { dst := some 76, op := _, type := _, pos := _, after := _, guard := _ }) rfl (fun K hK => ?_) (AllReadyH.nil)
                  refine step_append_lies _ (by rfl) (.tmp 73) (.tmp 75) 51 (by rfl) base 37 i2 (.agg #[.int .i64 0, .int .i64 0]) 2 16 Try.underlying51 hp hx0 hx1 hx2 rfl (by decide) (.slice (some ⟨gp, 0, none⟩) np cp) np (pcs D O np) (by rfl) hH5.pls ⟨x1, 0, none⟩ 1 1 [.int .i64 (d3 : Int), .int .i64 (o3 : Int)] (by rfl) rfl (blk_cells2 fX5) (by intro u hu; simp at hu; rcases hu with rfl | rfl <;> rfl) (by decide) (by unfold maxLen; omega) (by omega) (Nat.le_of_lt (Nat.lt_of_le_of_lt hH5.spw.plt.1 hH5.spw.plt.2)) V5.heap.size (by rfl) ?_
                  intro gp6 cp6 V6 hown6 hg6 hat6 hlt6
                  have hH6 := St18.appP hH5 hown6 hg6 (hat6.imp (fun e => by injection e) (fun e => by omega))
                  have fY6 := Blk.kept hB5 hg6 ⟨hB5.lt, fun e => by injection e with e; have e2 : gp = _ := e; omega⟩
                  refine hK.out _ _ ⟨hH6.b12.cell 0, hH6.b12.cell 1, hH6.b8.cell 1⟩ (fun hC6 => ?_)
                  clear hK K hg6 hat6 hlt6 hown6
                  try simp only [Act.put, List.setIfInBounds_toArray, List.set_cons_zero, List.set_cons_succ]
                  refine wpAnyH_ready (rs := [8]) (by kernel_rfl) (by simp) ?_
                  refine AllReadyH.cons (o := { dst := some 81, op := _, type := _, pos := _, after := _, guard := _ }) rfl (fun K hK => ?_) (AllReadyH.nil)
                  refine step_append_lies _ (by rfl) (.tmp 77) (.tmp 80) 29 (by rfl) base 33 i1 (.slice none 0 0) 1 24 Try.underlying29 hj hy0 hy1 hy2 rfl (by decide) (.slice (some ⟨gr, 0, none⟩) np cr) np (rcs (fun i => RA (J i)) (fun i => R (J i)) (fun i => RC (J i)) np) (by rfl) hH6.rcd ⟨x5, 0, none⟩ 1 1 [.slice (RA k) (RL k) (RC k)] (by rfl) rfl (blk_cells1 fY6) (by intro u hu; simp at hu; subst hu; rfl) (by decide) (by unfold maxLen; omega) (by omega) (Nat.le_of_lt (Nat.lt_of_le_of_lt hH6.spw.plt.1 hH6.spw.plt.2)) V6.heap.size (by rfl) ?_
                  intro gr7 cr7 V7 hown7 hg7 hat7 hlt7
                  have hH7 := St18.appQ hH6 hown7 hg7 (hat7.imp (fun e => by injection e) (fun e => by omega))
                  refine hK.out _ _ ⟨hH7.b12.cell 0, hH7.b12.cell 1, hH7.b8.cell 1⟩ (fun hC7 => ?_)
                  clear hK K hg7 hat7 hlt7 hown7
                  try simp only [Act.put, List.setIfInBounds_toArray, List.set_cons_zero, List.set_cons_succ]
                  refine wpAnyH_take (i := 9) (oi := { dst := some 8, op := _, type := _, pos := _, after := _, guard := _ }) (v := ?_) rfl (by kernel_rfl) (by kernel_rfl) (by kernel_rfl) (fun _ _ _ h => h) (Or.inl ⟨by rfl, ?_⟩) (by assumption) ?_
                  rotate_left
                  · intro w' hSw
                    try dsimp only at hSw
                    go_simp
                    try with_reducible rfl
                  try simp only [Act.put, List.setIfInBounds_toArray, List.set_cons_zero, List.set_cons_succ]
                  refine wpAnyH_take (i := 10) (oi := { dst := some 9, op := _, type := _, pos := _, after := _, guard := _ }) (v := ?_) rfl (by kernel_rfl) (by kernel_rfl) (by kernel_rfl) (fun _ _ _ h => h) (Or.inl ⟨by rfl, ?_⟩) (by assumption) ?_
                  rotate_left
                  · intro w' hSw
                    try dsimp only at hSw
                    go_simp
                    try with_reducible rfl
                  try simp only [Act.put, List.setIfInBounds_toArray, List.set_cons_zero, List.set_cons_succ]
                  refine wpAnyH_done (by kernel_rfl) ?_ _
                  exact hRESTo.out.out x1 x5 gp6 cp6 gr7 cr7 V7 hH7
              · skip
                have hba8 := (Below.refl V0.heap.size V0).alloc (Nat.le_refl _) (.cells #[.slice (RA k) (RL k) (RC k)] 33)
                have hH8 := St18.belW hV0 hba8
                have hB8 := Blk.new V0 33 #[.slice (RA k) (RL k) (RC k)]
                have hq8 := And.intro hV0.gplt.2 hV0.grlt.2
                go_simp
                refine hK.out _ _ ⟨hH8.b12.cell 0, hH8.b12.cell 1, hH8.b8.cell 1⟩ (fun hC8 => ?_)
                clear hK K hba8
                try simp only [Act.put, List.setIfInBounds_toArray, List.set_cons_zero, List.set_cons_succ]
                generalize V0.alloc (.cells #[.slice (RA k) (RL k) (RC k)] 33) = V8 at *
                generalize V0.heap.size = x8 at *
                refine wpAnyH_ready (rs := [2]) (by kernel_rfl) (by simp) ?_
                refine AllReadyH.cons (o := { dst := some 75, op := _, type := _, pos := _, after := _, guard := _ }) rfl (fun K hK => ?_) (AllReadyH.nil)
                have hba9 := (Below.refl V8.heap.size V8).alloc (Nat.le_refl _) (.cells #[.int .i64 (d3 : Int), .int .i64 (o3 : Int)] 37)
                have hH9 := St18.belW hH8 hba9
                have hB9 := Blk.new V8 37 #[.int .i64 (d3 : Int), .int .i64 (o3 : Int)]
                have hq9 := And.intro hH8.gplt.2 hH8.grlt.2
                have fY9 := Blk.below hB8 hB8.lt hba9
                go_simp
                refine hK.out _ _ ⟨hH9.b12.cell 0, hH9.b12.cell 1, hH9.b8.cell 1⟩ (fun hC9 => ?_)
                clear hK K hba9
                try simp only [Act.put, List.setIfInBounds_toArray, List.set_cons_zero, List.set_cons_succ]
                generalize V8.alloc (.cells #[.int .i64 (d3 : Int), .int .i64 (o3 : Int)] 37) = V9 at *
                generalize V8.heap.size = x9 at *
                refine wpAnyH_ready (rs := [3]) (by kernel_rfl) (by simp) ?_
                refine AllReadyH.cons (o := { dst := some 76, op := _, type := _, pos := _, after := _, guard := _ }) rfl (fun K hK => ?_) (AllReadyH.nil)
                refine step_append_lies _ (by rfl) (.tmp 73) (.tmp 75) 51 (by rfl) base 37 i2 (.agg #[.int .i64 0, .int .i64 0]) 2 16 Try.underlying51 hp hx0 hx1 hx2 rfl (by decide) (.slice (some ⟨gp, 0, none⟩) np cp) np (pcs D O np) (by rfl) hH9.pls ⟨x9, 0, none⟩ 1 1 [.int .i64 (d3 : Int), .int .i64 (o3 : Int)] (by rfl) rfl (blk_cells2 hB9) (by intro u hu; simp at hu; rcases hu with rfl | rfl <;> rfl) (by decide) (by unfold maxLen; omega) (by omega) (Nat.le_of_lt (Nat.lt_of_le_of_lt hH9.spw.plt.1 hH9.spw.plt.2)) V9.heap.size (by rfl) ?_
                intro gp10 cp10 V10 hown10 hg10 hat10 hlt10
                have hH10 := St18.appP hH9 hown10 hg10 (hat10.imp (fun e => by injection e) (fun e => by omega))
                have fY10 := Blk.kept fY9 hg10 ⟨fY9.lt, fun e => by injection e with e; have e2 : gp = _ := e; omega⟩
                refine hK.out _ _ ⟨hH10.b12.cell 0, hH10.b12.cell 1, hH10.b8.cell 1⟩ (fun hC10 => ?_)
                clear hK K hg10 hat10 hlt10 hown10
                try simp only [Act.put, List.setIfInBounds_toArray, List.set_cons_zero, List.set_cons_succ]
                refine wpAnyH_ready (rs := [8]) (by kernel_rfl) (by simp) ?_
                refine AllReadyH.cons (o := { dst := some 81, op := _, type := _, pos := _, after := _, guard := _ }) rfl (fun K hK => ?_) (AllReadyH.nil)
                refine step_append_lies _ (by rfl) (.tmp 77) (.tmp 80) 29 (by rfl) base 33 i1 (.slice none 0 0) 1 24 Try.underlying29 hj hy0 hy1 hy2 rfl (by decide) (.slice (some ⟨gr, 0, none⟩) np cr) np (rcs (fun i => RA (J i)) (fun i => R (J i)) (fun i => RC (J i)) np) (by rfl) hH10.rcd ⟨x8, 0, none⟩ 1 1 [.slice (RA k) (RL k) (RC k)] (by rfl) rfl (blk_cells1 fY10) (by intro u hu; simp at hu; subst hu; rfl) (by decide) (by unfold maxLen; omega) (by omega) (Nat.le_of_lt (Nat.lt_of_le_of_lt hH10.spw.plt.1 hH10.spw.plt.2)) V10.heap.size (by rfl) ?_
                intro gr11 cr11 V11 hown11 hg11 hat11 hlt11
                have hH11 := St18.appQ hH10 hown11 hg11 (hat11.imp (fun e => by injection e) (fun e => by omega))
                refine hK.out _ _ ⟨hH11.b12.cell 0, hH11.b12.cell 1, hH11.b8.cell 1⟩ (fun hC11 => ?_)
                clear hK K hg11 hat11 hlt11 hown11
                try simp only [Act.put, List.setIfInBounds_toArray, List.set_cons_zero, List.set_cons_succ]
                refine wpAnyH_take (i := 9) (oi := { dst := some 8, op := _, type := _, pos := _, after := _, guard := _ }) (v := ?_) rfl (by kernel_rfl) (by kernel_rfl) (by kernel_rfl) (fun _ _ _ h => h) (Or.inl ⟨by rfl, ?_⟩) (by assumption) ?_
                rotate_left
                · intro w' hSw
                  try dsimp only at hSw
                  go_simp
                  try with_reducible rfl
                try simp only [Act.put, List.setIfInBounds_toArray, List.set_cons_zero, List.set_cons_succ]
                refine wpAnyH_take (i := 10) (oi := { dst := some 9, op := _, type := _, pos := _, after := _, guard := _ }) (v := ?_) rfl (by kernel_rfl) (by kernel_rfl) (by kernel_rfl) (fun _ _ _ h => h) (Or.inl ⟨by rfl, ?_⟩) (by assumption) ?_
                rotate_left
                · intro w' hSw
                  try dsimp only at hSw
                  go_simp
                  try with_reducible rfl
                try simp only [Act.put, List.setIfInBounds_toArray, List.set_cons_zero, List.set_cons_succ]
                refine wpAnyH_done (by kernel_rfl) ?_ _
                exact hRESTo.out.out x9 x8 gp10 cp10 gr11 cr11 V11 hH11
            case zz =>
              intro q75 q80 gp' cp' gr' cr' W hfin
              have HI11 := Lib.hid (hfin.fil HLR.out hlt HST.out HOK9.out.2)
              have HS11 := Lib.hid hfin.spw
              have HB11 := Lib.hid hfin.bel
              have HFL9 : Hid ((vput S' v (R k)).flat.length ≤ 4 + 60 * (k + 1) ∧ np + 1 ≤ k + 1) := ⟨HFL7.out, by omega⟩
              clear hfin hV0 HC0
              go_wp2_with fail
              go_roundw
              case rel => exact ⟨k + 1, _, F7, g9, _, c9, gp', np + 1, cp', gr', cr', _, _, _, by omega, by go_num, rfl, rfl, rfl, HS11, HI11, HOK7, HHE7, HFL9, HB11⟩
              case measure => simp [intOf]; omega
        · have k1 : ((K k : Int) != 1) = true := by rw [bne_iff_ne]; exact hK1
          clear hK0 hK1
          go_wp2_with fail
          refine (Data_c HS4.out HOK.out hS6 (by have := HNA.out; omega) HR4.out HFAR.out).mono ?_
          rintro e W7 hq
          obtain ⟨F7, rfl, hk7, hs7, hf7⟩ := hq.use
          have HI7 := Lib.hid (HI4.out.work hk7 hf7)
          have hr7 := HR4.out.keepF hk7 HFAR.out
          have hz7 := (hk7.blk HK8.out HN8.out)
          have z81' : W7.cell? ⟨wr.heap.size, 1, none⟩ = some (.slice (RA k) (RL k) (RC k)) := hz7.cell 1
          have HS7 := Lib.hid hs7
          have HB7 := Lib.hid (HB4.out.trans (HS4.out.belowW hk7 HBS.out HB4.out.size))
          have HR7 := Lib.hid hr7
          have hfl' : (vdata S' v (R k)).flat = v.flat ++ R k := flat_data S' (R k) v
          have HFD := Lib.hid hfl'
          have HBW : Hid (base ≤ W7.heap.size) := by have := hs7.plt; unfold Hid; omega
          clear hq hk7 hs7 hf7 hz7 hr7 hfl' z80 z81 HS4 HI4 HB4 HR4 HK8
          generalize wr.heap.size = q8 at *
          go_wp2_with (at_builtin; refine wpList_append_all i0 hi hz0 hz1 hz2 rfl _ _ rfl base ga na ca v.flat HI7.out.all rfl (RA k) (RL k) (RC k) (R k) rfl HR7.out.row (by omega) HBW.out ?_; intro g9 c9 w9 hA9 hk9 hg9)
          have HI9 := Lib.hid (HI7.out.more (v' := vdata S' v (R k)) (fun k hk => (HS7.out.sub k hk).2) (Held.data S' (R k) v) (by rw [HFD.out]; exact hA9) hk9 hg9)
          have HS9 := Lib.hid (HS7.out.keepF hk9 (fun k hF e => HI7.out.fa (by rw [← e]; exact hF)))
          have HB9 := Lib.hid (HB7.out.trans (hk9.below HB7.out.size (fun k e => by subst e; have := HI7.out.all.ge; have := HBS.out; omega)))
          have HOK9 := Lib.hid (HOK.out.data (show 1 ≤ S' by omega) (R k))
          have HFL9 : Hid ((vdata S' v (R k)).flat.length ≤ 4 + 60 * (k + 1) ∧ np ≤ k + 1) := ⟨vdata_flat_le (R k) hfl (by rw [HLR.out]; exact hlk), by omega⟩
          clear hA9 hk9 hg9
          go_roundw
          case rel => exact ⟨k + 1, _, F7, g9, _, c9, gp, np, cp, gr, cr, D, O, J, by omega, by go_num, rfl, rfl, rfl, HS9, HI9, HOK9, Lib.hid (hHe.out.trans (Held.data S' (R k) v)), HFL9, HB9⟩
          case measure => simp [intOf]; omega
    · obtain rfl : k = n := by omega
      clear hn
      have hfl := hFl.out.1
      have hnp := hFl.out.2
      have hn20 := HF.out.1
      have hcnt := hOk.out.count
      have hP : v.P.length < 1300 := by omega
      go_wp2_with fail
      refine (RowW_c hSp.out hOk.out hS6 (by omega)).mono ?_
      rintro e W8 ⟨gR, cR, RA', RC', rfl, hA8, hb8⟩
      have HA8 := Lib.hid hA8
      have HI8 := Lib.hid (hFi.out.below hb8)
      have HB8 := Lib.hid (hb.out.trans (hb8.mono hb.out.size))
      have HRWS := Lib.hid (fun r (hr : r < v.P.length + 1) => hOk.out.row hr)
      have HFIR := Lib.hid (held_first hHe.out)
      have HFLT := Lib.hid (joinTo_all v)
      have HLEN := Lib.hid (fun r => Nat.le_trans (vrow_le v r) (show v.flat.length ≤ 1300 by omega))
      have HSTD := Lib.hid hFi.out.ok
      clear hA8 hb8 hSp hFi hb hHe hFl hcnt
      obtain ⟨m, hm⟩ : ∃ m, m = v.P.length + 1 := ⟨_, rfl⟩
      rw [← hm] at HA8 HRWS HFLT ⊢
      have hm1 : m ≤ 1300 := by omega
      have HMM := Lib.hid hm
      clear hm
      generalize hR8 : vrow v = RR at *
      have HR8 := Lib.hid hR8
      clear hR8
      go_wp2_with fail
      go_loopw [87] (fun iv wr => ∃ j : Nat, j ≤ m ∧ iv = .int .i64 j ∧ Hid (Below W8.heap.size W8 wr)) (fun iv _ => m - (intOf iv).toNat)
      case atStart => exact ⟨0, by omega, rfl, Below.refl _ _⟩
      case round =>
        obtain ⟨j, hj, rfl, hbj⟩ := hrel
        by_cases hlt2 : j < m
        · have hjm : (j : Int) < m := by omega
          obtain ⟨bR, oR, eR, _, zR⟩ := MIn.at_ (HA8.out.below hbj.out).min hlt2
          injection eR with eR
          injection eR with eR1 eR2 _
          subst eR1 eR2
          rw [Nat.zero_add] at zR
          have hr1 := (HRWS.out j hlt2).1
          have hr2 := (HRWS.out j hlt2).2
          have hr3 : j = 0 → 4 ≤ (RR j).length := fun e => by subst e; exact HFIR.out
          obtain ⟨L, hL⟩ : ∃ L, L = (RR j).length := ⟨_, rfl⟩
          rw [← hL] at hr1 hr2 hr3 zR
          clear hL
          have j1 : ¬ (L : Int) < 1 := by omega
          have j2 : ¬ (S' : Int) < (L : Int) := by omega
          by_cases h0 : j = 0
          · have j3 : ((j : Int) == 0) = true := by rw [h0]; rfl
            have j4 : ¬ (L : Int) < 4 := by have := hr3 h0; omega
            clear hr1 hr2 hr3 h0
            go_wp2_with fail
            go_roundw
            case rel => exact ⟨j + 1, by omega, by go_num, hbj⟩
            case measure => simp [intOf]; omega
          · have j3 : ((j : Int) == 0) = false := by rw [beq_eq_false_iff_ne]; omega
            clear hr1 hr2 hr3 h0
            go_wp2_with fail
            go_roundw
            case rel => exact ⟨j + 1, by omega, by go_num, hbj⟩
            case measure => simp [intOf]; omega
        · obtain rfl : j = m := by omega
          clear hj hlt2
          have HA9 := Lib.hid (HA8.out.below hbj.out)
          have HI9 := Lib.hid (HI8.out.below hbj.out)
          have HB9 := Lib.hid (HB8.out.trans (hbj.out.mono HB8.out.size))
          clear HA8 HI8 HB8 hbj
          obtain ⟨W9, hW9⟩ : ∃ W9, W9 = wr := ⟨_, rfl⟩
          subst hW9
          go_wp2_with fail
          go_loopw [113] (fun iv wr => ∃ i : Nat, i ≤ np ∧ iv = .int .i64 i ∧ Hid (Below W9.heap.size W9 wr)) (fun iv _ => np - (intOf iv).toNat)
          case atStart => exact ⟨0, by omega, rfl, Below.refl _ _⟩
          case round =>
            obtain ⟨i, hi, rfl, hbx⟩ := hrel
            by_cases hlt3 : i < np
            · have hin : (i : Int) < np := by omega
              obtain ⟨hJ, hd, hot, hst⟩ := HSTD.out i hlt3
              rw [HR8.out] at hot hst
              rw [← HMM.out] at hd
              have hgpl := (HI9.out.pls.lt gp rfl).2
              have hgrl := (HI9.out.rcd.lt gr rfl).2
              have z0 := (hbx.out.cell (p := ⟨gp, i * 2, none⟩) hgpl).trans ((HI9.out.pls.cellAt (i * 2) (by omega)).trans (pcs_at np i hlt3).1)
              have z1 := (hbx.out.cell (p := ⟨gp, i * 2 + 1, none⟩) hgpl).trans ((HI9.out.pls.cellAt (i * 2 + 1) (by omega)).trans (pcs_at np i hlt3).2)
              have z2 := (hbx.out.cell (p := ⟨gr, i, none⟩) hgrl).trans ((HI9.out.rcd.cellAt i (by omega)).trans (rcs_at hlt3))
              have hb9 : Below w.heap.size w wr := HB9.out.trans (hbx.out.mono HB9.out.size)
              have hrow := ((H.out.row (J i) hJ).below hb9).row
              have hA10 := HA9.out.below hbx.out
              obtain ⟨bR, oR, eR, _, zR⟩ := MIn.at_ hA10.min hd
              injection eR with eR
              injection eR with eR1 eR2 _
              subst eR1 eR2
              rw [Nat.zero_add] at zR
              have hrw := MIn.row hA10.min (D i) hd
              have hL1 := HLEN.out (D i)
              rw [← H.out.len hJ] at hrow
              have HOI := Lib.hid (show (Below w.heap.size w wr) from hb9)
              have HTT := Lib.hid hst
              generalize D i = d at *
              generalize O i = o at *
              generalize RA (J i) = A2 at *
              generalize RC (J i) = C2 at *
              generalize R (J i) = l2 at *
              obtain ⟨t, ht⟩ : ∃ t, t = l2.length := ⟨_, rfl⟩
              obtain ⟨L, hL⟩ : ∃ L, L = (RR d).length := ⟨_, rfl⟩
              rw [← ht] at hot z2 hrow
              change RowIn wr (RA' d) (RR d).length (RC' d) (RR d) at hrw
              change (RR d).length ≤ 1300 at hL1
              rw [← hL] at hot zR hrw hL1
              generalize RA' d = A3 at *
              generalize RC' d = C3 at *
              have hba := (Below.refl wr.heap.size wr).alloc (Nat.le_refl _) (.cells #[.int .i64 (d : Int), .int .i64 (o : Int)] 37)
              have hk18 := Blk.new wr 37 #[.int .i64 (d : Int), .int .i64 (o : Int)]
              have y0 : (wr.alloc (.cells #[.int .i64 (d : Int), .int .i64 (o : Int)] 37)).cell? ⟨wr.heap.size, 0, none⟩ = some (.int .i64 d) := hk18.cell 0
              have y1 : (wr.alloc (.cells #[.int .i64 (d : Int), .int .i64 (o : Int)] 37)).cell? ⟨wr.heap.size, 1, none⟩ = some (.int .i64 o) := hk18.cell 1
              have hgRl := (hA10.top gR 0 rfl).2
              have y2 : (wr.alloc (.cells #[.int .i64 (d : Int), .int .i64 (o : Int)] 37)).cell? ⟨gR, d, none⟩ = some (.slice A3 L C3) := (hba.cell (p := ⟨gR, d, none⟩) hgRl).trans zR
              have y3 : (wr.alloc (.cells #[.int .i64 (d : Int), .int .i64 (o : Int)] 37)).cell? ⟨gr, i, none⟩ = some (.slice A2 t C2) := (hba.cell (p := ⟨gr, i, none⟩) (by have := hbx.out.size; show gr < wr.heap.size; omega)).trans z2
              have HRW := Lib.hid (hrw.below hba)
              have HR2 := Lib.hid (hrow.below hba)
              have HBX := Lib.hid (hbx.out.trans (hba.mono hbx.out.size))
              have hLC := hrw.le
              have hC3 := hrw.max
              have HTL := Lib.hid ht
              clear hba hk18 hgRl zR z2 hrw hrow hbx hA10 hb9 hst ht hL hgpl hgrl
              obtain ⟨M, hM⟩ : ∃ M, M = o + t := ⟨_, rfl⟩
              have c1 : ¬ (d : Int) < 0 := by omega
              have c2 : ¬ (j : Int) ≤ (d : Int) := by omega
              have c3 : ¬ (o : Int) < 0 := by omega
              have c4 : ¬ (L : Int) < (M : Int) := by omega
              have c5 : (0 : Int) ≤ (d : Int) := by omega
              have c6 : (d : Int) < (j : Int) := by omega
              have c7 : (0 : Int) ≤ (o : Int) := by omega
              have c8 : (o : Int) ≤ (M : Int) := by omega
              have c9 : (M : Int) ≤ (C3 : Int) := by omega
              have c2' : ¬ j ≤ d := by omega
              have c4' : ¬ L < M := by omega
              have c8' : o ≤ M := by omega
              have c9' : M ≤ C3 := by omega
              have c5' : d < j := by omega
              have hw : IntKind.i64.wrap ((o : Int) + (t : Int)) = (M : Int) := (IntWalk.i64_in _ (by omega)).trans (by omega)
              have HMO := Lib.hid hM
              have HRS := Lib.hid (HRW.out.slice (a := o) (M := M) (by omega) (by omega))
              have hmo : M - o = t := by omega
              have HMT := Lib.hid hmo
              clear hM hot hmo hL1
              by_cases hcap : C3 = o
              · have HRR := Lib.hid (HRS.out.1 hcap)
                have c10 : M ≤ o := by omega
                clear HRS HRW hLC
                have hMo : o = M := by omega
                have ht0 : t = 0 := by have := HMO.out; omega
                have HT0 := Lib.hid ht0
                clear HMO HMT HRR hMo c8' c9' c10 ht0
                obtain rfl : M = o := by have := HT0.out; omega
                have HDT : decide (([] : List F) = l2) = true := decide_eq_true (List.eq_nil_of_length_eq_zero (by rw [← HTL.out]; exact HT0.out)).symm
                have hSM := SameW_c A3 A2 0 t 0 C2 [] l2 (wr.alloc (.cells #[.int .i64 (d : Int), .int .i64 (M : Int)] 37)).drew (Row.nil _ _) (HR2.out.drewN 1)
                rw [HDT] at hSM
                have HSM := Lib.hid hSM
                clear hSM HDT HR2
                have HBX2 := HBX
                go_wp2_with fail
                generalize wr.alloc (.cells #[.int .i64 (d : Int), .int .i64 (M : Int)] 37) = W10 at *
                generalize wr.heap.size = q18 at *
                refine wp_region_held_drew (S := fun W' => W'.cell? ⟨q18, 0, none⟩ = some (.int .i64 (d : Int)) ∧ W'.cell? ⟨q18, 1, none⟩ = some (.int .i64 (M : Int)) ∧ W'.cell? ⟨gR, d, none⟩ = some (.slice A3 L C3)) (by kernel_rfl) ?_ (fun hHeld => ?_)
                · go_keep
                refine wpAnyH_take (i := 0) (oi := { dst := some 122, op := _, type := _, pos := _, after := _, guard := _ }) (v := ?_) rfl (by kernel_rfl) (by kernel_rfl) (by kernel_rfl) (fun _ _ _ h => h) (Or.inl ⟨by rfl, ?_⟩) (by assumption) ?_
                rotate_left
                · intro w' hSw
                  try dsimp only at hSw
                  go_simp
                  try with_reducible rfl
                try simp only [Act.put, List.setIfInBounds_toArray, List.set_cons_zero, List.set_cons_succ]
                refine wpAnyH_take (i := 1) (oi := { dst := some 123, op := _, type := _, pos := _, after := _, guard := _ }) (v := ?_) rfl (by kernel_rfl) (by kernel_rfl) (by kernel_rfl) (fun _ _ _ h => h) (Or.inl ⟨by rfl, ?_⟩) (by assumption) ?_
                rotate_left
                · intro w' hSw
                  try dsimp only at hSw
                  go_simp
                  try with_reducible rfl
                try simp only [Act.put, List.setIfInBounds_toArray, List.set_cons_zero, List.set_cons_succ]
                refine wpAnyH_take (i := 2) (oi := { dst := some 124, op := _, type := _, pos := _, after := _, guard := _ }) (v := ?_) rfl (by kernel_rfl) (by kernel_rfl) (by kernel_rfl) (fun _ _ _ h => h) (Or.inl ⟨by rfl, ?_⟩) (by assumption) ?_
                rotate_left
                · intro w' hSw
                  try dsimp only at hSw
                  go_simp
                  try with_reducible rfl
                try simp only [Act.put, List.setIfInBounds_toArray, List.set_cons_zero, List.set_cons_succ]
                refine wpAnyH_take (i := 3) (oi := { dst := some 125, op := _, type := _, pos := _, after := _, guard := _ }) (v := ?_) rfl (by kernel_rfl) (by kernel_rfl) (by kernel_rfl) (fun _ _ _ h => h) (Or.inl ⟨by rfl, ?_⟩) (by assumption) ?_
                rotate_left
                · intro w' hSw
                  try dsimp only at hSw
                  go_simp
                  try with_reducible rfl
                try simp only [Act.put, List.setIfInBounds_toArray, List.set_cons_zero, List.set_cons_succ]
                refine wpAnyH_take (i := 4) (oi := { dst := some 126, op := _, type := _, pos := _, after := _, guard := _ }) (v := ?_) rfl (by kernel_rfl) (by kernel_rfl) (by kernel_rfl) (fun _ _ _ h => h) (Or.inl ⟨by rfl, ?_⟩) (by assumption) ?_
                rotate_left
                · intro w' hSw
                  try dsimp only at hSw
                  go_simp
                  try with_reducible rfl
                try simp only [Act.put, List.setIfInBounds_toArray, List.set_cons_zero, List.set_cons_succ]
                refine wpAnyH_take (i := 5) (oi := { dst := some 127, op := _, type := _, pos := _, after := _, guard := _ }) (v := ?_) rfl (by kernel_rfl) (by kernel_rfl) (by kernel_rfl) (fun _ _ _ h => h) (Or.inl ⟨by rfl, ?_⟩) (by assumption) ?_
                rotate_left
                · intro w' hSw
                  try dsimp only at hSw
                  go_simp
                  try with_reducible rfl
                try simp only [Act.put, List.setIfInBounds_toArray, List.set_cons_zero, List.set_cons_succ]
                refine wpAnyH_take (i := 6) (oi := { dst := some 128, op := _, type := _, pos := _, after := _, guard := _ }) (v := ?_) rfl (by kernel_rfl) (by kernel_rfl) (by kernel_rfl) (fun _ _ _ h => h) (Or.inl ⟨by rfl, ?_⟩) (by assumption) ?_
                rotate_left
                · intro w' hSw
                  try dsimp only at hSw
                  go_simp
                  try with_reducible rfl
                try simp only [Act.put, List.setIfInBounds_toArray, List.set_cons_zero, List.set_cons_succ]
                refine wpAnyH_take (i := 7) (oi := { dst := some 129, op := _, type := _, pos := _, after := _, guard := _ }) (v := ?_) rfl (by kernel_rfl) (by kernel_rfl) (by kernel_rfl) (fun _ _ _ h => h) (Or.inl ⟨by rfl, ?_⟩) (by assumption) ?_
                rotate_left
                · intro w' hSw
                  try dsimp only at hSw
                  go_simp
                  try with_reducible rfl
                try simp only [Act.put, List.setIfInBounds_toArray, List.set_cons_zero, List.set_cons_succ]
                refine wpAnyH_take (i := 8) (oi := { dst := some 130, op := _, type := _, pos := _, after := _, guard := _ }) (v := ?_) rfl (by kernel_rfl) (by kernel_rfl) (by kernel_rfl) (fun _ _ _ h => h) (Or.inl ⟨by rfl, ?_⟩) (by assumption) ?_
                rotate_left
                · intro w' hSw
                  try dsimp only at hSw
                  go_simp
                  try with_reducible rfl
                try simp only [Act.put, List.setIfInBounds_toArray, List.set_cons_zero, List.set_cons_succ]
                refine wpAnyH_take (i := 9) (oi := { dst := some 131, op := _, type := _, pos := _, after := _, guard := _ }) (v := ?_) rfl (by kernel_rfl) (by kernel_rfl) (by kernel_rfl) (fun _ _ _ h => h) (Or.inl ⟨by rfl, ?_⟩) (by assumption) ?_
                rotate_left
                · intro w' hSw
                  try dsimp only at hSw
                  go_simp
                  try with_reducible rfl
                try simp only [Act.put, List.setIfInBounds_toArray, List.set_cons_zero, List.set_cons_succ]
                refine wpAnyH_take (i := 10) (oi := { dst := some 132, op := _, type := _, pos := _, after := _, guard := _ }) (v := ?_) rfl (by kernel_rfl) (by kernel_rfl) (by kernel_rfl) (fun _ _ _ h => h) (Or.inl ⟨by rfl, ?_⟩) (by assumption) ?_
                rotate_left
                · intro w' hSw
                  try dsimp only at hSw
                  go_simp
                  try with_reducible rfl
                try simp only [Act.put, List.setIfInBounds_toArray, List.set_cons_zero, List.set_cons_succ]
                refine wpAnyH_take (i := 11) (oi := { dst := some 133, op := _, type := _, pos := _, after := _, guard := _ }) (v := ?_) rfl (by kernel_rfl) (by kernel_rfl) (by kernel_rfl) (fun _ _ _ h => h) (Or.inl ⟨by rfl, ?_⟩) (by assumption) ?_
                rotate_left
                · intro w' hSw
                  try dsimp only at hSw
                  go_simp
                  try with_reducible rfl
                try simp only [Act.put, List.setIfInBounds_toArray, List.set_cons_zero, List.set_cons_succ]
                refine wpAnyH_take (i := 12) (oi := { dst := some 134, op := _, type := _, pos := _, after := _, guard := _ }) (v := ?_) rfl (by kernel_rfl) (by kernel_rfl) (by kernel_rfl) (fun _ _ _ h => h) (Or.inl ⟨by rfl, ?_⟩) (by assumption) ?_
                rotate_left
                · intro w' hSw
                  try dsimp only at hSw
                  go_simp
                  try with_reducible rfl
                try simp only [Act.put, List.setIfInBounds_toArray, List.set_cons_zero, List.set_cons_succ]
                refine wpAnyH_take (i := 13) (oi := { dst := some 135, op := _, type := _, pos := _, after := _, guard := _ }) (v := ?_) rfl (by kernel_rfl) (by kernel_rfl) (by kernel_rfl) (fun _ _ _ h => h) (Or.inl ⟨by rfl, ?_⟩) (by assumption) ?_
                rotate_left
                · intro w' hSw
                  try dsimp only at hSw
                  go_simp
                  try with_reducible rfl
                try simp only [Act.put, List.setIfInBounds_toArray, List.set_cons_zero, List.set_cons_succ]
                refine wpAnyH_take (i := 14) (oi := { dst := some 136, op := _, type := _, pos := _, after := _, guard := _ }) (v := ?_) rfl (by kernel_rfl) (by kernel_rfl) (by kernel_rfl) (fun _ _ _ h => h) (Or.inl ⟨by rfl, ?_⟩) (by assumption) ?_
                rotate_left
                · intro w' hSw
                  try dsimp only at hSw
                  go_simp
                  try with_reducible rfl
                try simp only [Act.put, List.setIfInBounds_toArray, List.set_cons_zero, List.set_cons_succ]
                refine wpAnyH_take (i := 15) (oi := { dst := some 137, op := _, type := _, pos := _, after := _, guard := _ }) (v := ?_) rfl (by kernel_rfl) (by kernel_rfl) (by kernel_rfl) (fun _ _ _ h => h) (Or.inl ⟨by rfl, ?_⟩) (by assumption) ?_
                rotate_left
                · intro w' hSw
                  try dsimp only at hSw
                  go_simp
                  try with_reducible rfl
                try simp only [Act.put, List.setIfInBounds_toArray, List.set_cons_zero, List.set_cons_succ]
                refine wpAnyH_take (i := 16) (oi := { dst := some 138, op := _, type := _, pos := _, after := _, guard := _ }) (v := ?_) rfl (by kernel_rfl) (by kernel_rfl) (by kernel_rfl) (fun _ _ _ h => h) (Or.inl ⟨by rfl, ?_⟩) (by assumption) ?_
                rotate_left
                · intro w' hSw
                  try dsimp only at hSw
                  go_simp
                  try with_reducible rfl
                try simp only [Act.put, List.setIfInBounds_toArray, List.set_cons_zero, List.set_cons_succ]
                refine wpAnyH_take (i := 17) (oi := { dst := some 139, op := _, type := _, pos := _, after := _, guard := _ }) (v := ?_) rfl (by kernel_rfl) (by kernel_rfl) (by kernel_rfl) (fun _ _ _ h => h) (Or.inl ⟨by rfl, ?_⟩) (by assumption) ?_
                rotate_left
                · intro w' hSw
                  try dsimp only at hSw
                  go_simp
                  try with_reducible rfl
                try simp only [Act.put, List.setIfInBounds_toArray, List.set_cons_zero, List.set_cons_succ]
                refine wpAnyH_take (i := 18) (oi := { dst := some 140, op := _, type := _, pos := _, after := _, guard := _ }) (v := ?_) rfl (by kernel_rfl) (by kernel_rfl) (by kernel_rfl) (fun _ _ _ h => h) (Or.inl ⟨by rfl, ?_⟩) (by assumption) ?_
                rotate_left
                · intro w' hSw
                  try dsimp only at hSw
                  go_simp
                  try with_reducible rfl
                try simp only [Act.put, List.setIfInBounds_toArray, List.set_cons_zero, List.set_cons_succ]
                refine wpAnyH_take (i := 19) (oi := { dst := some 141, op := _, type := _, pos := _, after := _, guard := _ }) (v := ?_) rfl (by kernel_rfl) (by kernel_rfl) (by kernel_rfl) (fun _ _ _ h => h) (Or.inl ⟨by rfl, ?_⟩) (by assumption) ?_
                rotate_left
                · intro w' hSw
                  try dsimp only at hSw
                  go_simp
                  try with_reducible rfl
                try simp only [Act.put, List.setIfInBounds_toArray, List.set_cons_zero, List.set_cons_succ]
                refine wpAnyH_take (i := 20) (oi := { dst := some 142, op := _, type := _, pos := _, after := _, guard := _ }) (v := ?_) rfl (by kernel_rfl) (by kernel_rfl) (by kernel_rfl) (fun _ _ _ h => h) (Or.inl ⟨by rfl, ?_⟩) (by assumption) ?_
                rotate_left
                · intro w' hSw
                  try dsimp only at hSw
                  go_simp
                  try with_reducible rfl
                try simp only [Act.put, List.setIfInBounds_toArray, List.set_cons_zero, List.set_cons_succ]
                refine wpAnyH_take (i := 21) (oi := { dst := some 143, op := _, type := _, pos := _, after := _, guard := _ }) (v := ?_) rfl (by kernel_rfl) (by kernel_rfl) (by kernel_rfl) (fun _ _ _ h => h) (Or.inl ⟨by rfl, ?_⟩) (by assumption) ?_
                rotate_left
                · intro w' hSw
                  try dsimp only at hSw
                  go_simp
                  try with_reducible rfl
                try simp only [Act.put, List.setIfInBounds_toArray, List.set_cons_zero, List.set_cons_succ]
                refine wpAnyH_take (i := 22) (oi := { dst := some 144, op := _, type := _, pos := _, after := _, guard := _ }) (v := ?_) rfl (by kernel_rfl) (by kernel_rfl) (by kernel_rfl) (fun _ _ _ h => h) (Or.inl ⟨by rfl, ?_⟩) (by assumption) ?_
                rotate_left
                · intro w' hSw
                  try dsimp only at hSw
                  go_simp
                  try with_reducible rfl
                try simp only [Act.put, List.setIfInBounds_toArray, List.set_cons_zero, List.set_cons_succ]
                refine wpAnyH_take (i := 23) (oi := { dst := some 145, op := _, type := _, pos := _, after := _, guard := _ }) (v := ?_) rfl (by kernel_rfl) (by kernel_rfl) (by kernel_rfl) (fun _ _ _ h => h) (Or.inl ⟨by rfl, ?_⟩) (by assumption) ?_
                rotate_left
                · intro w' hSw
                  try dsimp only at hSw
                  go_simp
                  try with_reducible rfl
                try simp only [Act.put, List.setIfInBounds_toArray, List.set_cons_zero, List.set_cons_succ]
                refine wpAnyH_take (i := 24) (oi := { dst := some 146, op := _, type := _, pos := _, after := _, guard := _ }) (v := ?_) rfl (by kernel_rfl) (by kernel_rfl) (by kernel_rfl) (fun _ _ _ h => h) (Or.inl ⟨by rfl, ?_⟩) (by assumption) ?_
                rotate_left
                · intro w' hSw
                  try dsimp only at hSw
                  go_simp
                  try with_reducible rfl
                try simp only [Act.put, List.setIfInBounds_toArray, List.set_cons_zero, List.set_cons_succ]
                refine wpAnyH_take (i := 25) (oi := { dst := some 147, op := _, type := _, pos := _, after := _, guard := _ }) (v := ?_) rfl (by kernel_rfl) (by kernel_rfl) (by kernel_rfl) (fun _ _ _ h => h) (Or.inl ⟨by rfl, ?_⟩) (by assumption) ?_
                rotate_left
                · intro w' hSw
                  try dsimp only at hSw
                  go_simp
                  try with_reducible rfl
                try simp only [Act.put, List.setIfInBounds_toArray, List.set_cons_zero, List.set_cons_succ]
                refine wpAnyH_take (i := 26) (oi := { dst := some 148, op := _, type := _, pos := _, after := _, guard := _ }) (v := ?_) rfl (by kernel_rfl) (by kernel_rfl) (by kernel_rfl) (fun _ _ _ h => h) (Or.inl ⟨by rfl, ?_⟩) (by assumption) ?_
                rotate_left
                · intro w' hSw
                  try dsimp only at hSw
                  go_simp
                  try with_reducible rfl
                try simp only [Act.put, List.setIfInBounds_toArray, List.set_cons_zero, List.set_cons_succ]
                refine wpAnyH_take (i := 27) (oi := { dst := some 149, op := _, type := _, pos := _, after := _, guard := _ }) (v := ?_) rfl (by kernel_rfl) (by kernel_rfl) (by kernel_rfl) (fun _ _ _ h => h) (Or.inl ⟨by rfl, ?_⟩) (by assumption) ?_
                rotate_left
                · intro w' hSw
                  try dsimp only at hSw
                  go_simp
                  try with_reducible rfl
                try simp only [Act.put, List.setIfInBounds_toArray, List.set_cons_zero, List.set_cons_succ]
                refine wpAnyH_take (i := 28) (oi := { dst := some 150, op := _, type := _, pos := _, after := _, guard := _ }) (v := ?_) rfl (by kernel_rfl) (by kernel_rfl) (by kernel_rfl) (fun _ _ _ h => h) (Or.inl ⟨by rfl, ?_⟩) (by assumption) ?_
                rotate_left
                · intro w' hSw
                  try dsimp only at hSw
                  go_simp
                  try with_reducible rfl
                try simp only [Act.put, List.setIfInBounds_toArray, List.set_cons_zero, List.set_cons_succ]
                refine wpAnyH_take (i := 29) (oi := { dst := some 151, op := _, type := _, pos := _, after := _, guard := _ }) (v := ?_) rfl (by kernel_rfl) (by kernel_rfl) (by kernel_rfl) (fun _ _ _ h => h) (Or.inl ⟨by rfl, ?_⟩) (by assumption) ?_
                rotate_left
                · intro w' hSw
                  try dsimp only at hSw
                  go_simp
                  try with_reducible rfl
                try simp only [Act.put, List.setIfInBounds_toArray, List.set_cons_zero, List.set_cons_succ]
                refine wpAnyH_take (i := 30) (oi := { dst := some 152, op := _, type := _, pos := _, after := _, guard := _ }) (v := ?_) rfl (by kernel_rfl) (by kernel_rfl) (by kernel_rfl) (fun _ _ _ h => h) (Or.inl ⟨by rfl, ?_⟩) (by assumption) ?_
                rotate_left
                · intro w' hSw
                  try dsimp only at hSw
                  go_simp
                  try with_reducible rfl
                try simp only [Act.put, List.setIfInBounds_toArray, List.set_cons_zero, List.set_cons_succ]
                refine wpAnyH_take (i := 31) (oi := { dst := some 153, op := _, type := _, pos := _, after := _, guard := _ }) (v := ?_) rfl (by kernel_rfl) (by kernel_rfl) (by kernel_rfl) (fun _ _ _ h => h) (Or.inl ⟨by rfl, ?_⟩) (by assumption) ?_
                rotate_left
                · intro w' hSw
                  try dsimp only at hSw
                  go_simp
                  try with_reducible rfl
                try simp only [Act.put, List.setIfInBounds_toArray, List.set_cons_zero, List.set_cons_succ]
                refine wpAnyH_take (i := 32) (oi := { dst := some 154, op := _, type := _, pos := _, after := _, guard := _ }) (v := ?_) rfl (by kernel_rfl) (by kernel_rfl) (by kernel_rfl) (fun _ _ _ h => h) (Or.inl ⟨by rfl, ?_⟩) (by assumption) ?_
                rotate_left
                · intro w' hSw
                  try dsimp only at hSw
                  go_simp
                  try with_reducible rfl
                try simp only [Act.put, List.setIfInBounds_toArray, List.set_cons_zero, List.set_cons_succ]
                refine wpAnyH_take (i := 33) (oi := { dst := some 155, op := _, type := _, pos := _, after := _, guard := _ }) (v := ?_) rfl (by kernel_rfl) (by kernel_rfl) (by kernel_rfl) (fun _ _ _ h => h) (Or.inl ⟨by rfl, ?_⟩) (by assumption) ?_
                rotate_left
                · intro w' hSw
                  try dsimp only at hSw
                  go_simp
                  try with_reducible rfl
                try simp only [Act.put, List.setIfInBounds_toArray, List.set_cons_zero, List.set_cons_succ]
                refine wpAnyH_take (i := 34) (oi := { dst := some 156, op := _, type := _, pos := _, after := _, guard := _ }) (v := ?_) rfl (by kernel_rfl) (by kernel_rfl) (by kernel_rfl) (fun _ _ _ h => h) (Or.inl ⟨by rfl, ?_⟩) (by assumption) ?_
                rotate_left
                · intro w' hSw
                  try dsimp only at hSw
                  go_simp
                  try with_reducible rfl
                try simp only [Act.put, List.setIfInBounds_toArray, List.set_cons_zero, List.set_cons_succ]
                refine wpAnyH_take (i := 35) (oi := { dst := some 157, op := _, type := _, pos := _, after := _, guard := _ }) (v := ?_) rfl (by kernel_rfl) (by kernel_rfl) (by kernel_rfl) (fun _ _ _ h => h) (Or.inl ⟨by rfl, ?_⟩) (by assumption) ?_
                rotate_left
                · intro w' hSw
                  try dsimp only at hSw
                  go_simp
                  try with_reducible rfl
                try simp only [Act.put, List.setIfInBounds_toArray, List.set_cons_zero, List.set_cons_succ]
                refine wpAnyH_take (i := 36) (oi := { dst := some 158, op := _, type := _, pos := _, after := _, guard := _ }) (v := ?_) rfl (by kernel_rfl) (by kernel_rfl) (by kernel_rfl) (fun _ _ _ h => h) (Or.inl ⟨by rfl, ?_⟩) (by assumption) ?_
                rotate_left
                · intro w' hSw
                  try dsimp only at hSw
                  go_simp
                  try with_reducible rfl
                try simp only [Act.put, List.setIfInBounds_toArray, List.set_cons_zero, List.set_cons_succ]
                refine wpAnyH_take (i := 37) (oi := { dst := some 159, op := _, type := _, pos := _, after := _, guard := _ }) (v := ?_) rfl (by kernel_rfl) (by kernel_rfl) (by kernel_rfl) (fun _ _ _ h => h) (Or.inl ⟨by rfl, ?_⟩) (by assumption) ?_
                rotate_left
                · intro w' hSw
                  try dsimp only at hSw
                  go_simp
                  try with_reducible rfl
                try simp only [Act.put, List.setIfInBounds_toArray, List.set_cons_zero, List.set_cons_succ]
                refine wpAnyH_take (i := 38) (oi := { dst := some 160, op := _, type := _, pos := _, after := _, guard := _ }) (v := ?_) rfl (by kernel_rfl) (by kernel_rfl) (by kernel_rfl) (fun _ _ _ h => h) (Or.inl ⟨by rfl, ?_⟩) (by assumption) ?_
                rotate_left
                · intro w' hSw
                  try dsimp only at hSw
                  go_simp
                  try with_reducible rfl
                try simp only [Act.put, List.setIfInBounds_toArray, List.set_cons_zero, List.set_cons_succ]
                refine wpAnyH_take (i := 39) (oi := { dst := some 161, op := _, type := _, pos := _, after := _, guard := _ }) (v := ?_) rfl (by kernel_rfl) (by kernel_rfl) (by kernel_rfl) (fun _ _ _ h => h) (Or.inl ⟨by rfl, ?_⟩) (by assumption) ?_
                rotate_left
                · intro w' hSw
                  try dsimp only at hSw
                  go_simp
                  try with_reducible rfl
                try simp only [Act.put, List.setIfInBounds_toArray, List.set_cons_zero, List.set_cons_succ]
                refine wpAnyH_take (i := 40) (oi := { dst := some 162, op := _, type := _, pos := _, after := _, guard := _ }) (v := ?_) rfl (by kernel_rfl) (by kernel_rfl) (by kernel_rfl) (fun _ _ _ h => h) (Or.inl ⟨by rfl, ?_⟩) (by assumption) ?_
                rotate_left
                · intro w' hSw
                  try dsimp only at hSw
                  go_simp
                  try with_reducible rfl
                try simp only [Act.put, List.setIfInBounds_toArray, List.set_cons_zero, List.set_cons_succ]
                refine wpAnyH_take (i := 41) (oi := { dst := some 163, op := _, type := _, pos := _, after := _, guard := _ }) (v := ?_) rfl (by kernel_rfl) (by kernel_rfl) (by kernel_rfl) (fun _ _ _ h => h) (Or.inl ⟨by rfl, ?_⟩) (by assumption) ?_
                rotate_left
                · intro w' hSw
                  try dsimp only at hSw
                  go_simp
                  try with_reducible rfl
                try simp only [Act.put, List.setIfInBounds_toArray, List.set_cons_zero, List.set_cons_succ]
                refine wpAnyH_take (i := 42) (oi := { dst := some 164, op := _, type := _, pos := _, after := _, guard := _ }) (v := ?_) rfl (by kernel_rfl) (by kernel_rfl) (by kernel_rfl) (fun _ _ _ h => h) (Or.inl ⟨by rfl, ?_⟩) (by assumption) ?_
                rotate_left
                · intro w' hSw
                  try dsimp only at hSw
                  go_simp
                  try with_reducible rfl
                try simp only [Act.put, List.setIfInBounds_toArray, List.set_cons_zero, List.set_cons_succ]
                refine wpAnyH_take (i := 43) (oi := { dst := some 165, op := _, type := _, pos := _, after := _, guard := _ }) (v := ?_) rfl (by kernel_rfl) (by kernel_rfl) (by kernel_rfl) (fun _ _ _ h => h) (Or.inl ⟨by rfl, ?_⟩) (by assumption) ?_
                rotate_left
                · intro w' hSw
                  try dsimp only at hSw
                  go_simp
                  try with_reducible rfl
                try simp only [Act.put, List.setIfInBounds_toArray, List.set_cons_zero, List.set_cons_succ]
                refine wpAnyH_ready (rs := [44]) (by kernel_rfl) (by simp) ?_
                refine AllReadyH.cons (o := { dst := some 166, op := _, type := _, pos := _, after := _, guard := _ }) rfl (fun K hK => ?_) AllReadyH.nil
                go_simp
                go_at_call 20
                refine HSM.out.mono ?_
                rintro e _ ⟨rfl, q, rfl⟩
                try go_wp2_with fail
                refine hK.out _ _ ?_ (fun hHeld => ?_)
                · exact ⟨y0, y1, y2⟩
                clear hK K
                try simp only [Act.put, List.setIfInBounds_toArray, List.set_cons_zero, List.set_cons_succ]
                refine wpAnyH_take (i := 45) (oi := { dst := some 167, op := _, type := _, pos := _, after := _, guard := _ }) (v := ?_) rfl (by kernel_rfl) (by kernel_rfl) (by kernel_rfl) (fun _ _ _ h => h) (Or.inl ⟨by rfl, ?_⟩) (by assumption) ?_
                rotate_left
                · intro w' hSw
                  try dsimp only at hSw
                  go_simp
                  try with_reducible rfl
                try simp only [Act.put, List.setIfInBounds_toArray, List.set_cons_zero, List.set_cons_succ]
                refine wpAnyH_take (i := 46) (oi := { dst := some 168, op := _, type := _, pos := _, after := _, guard := _ }) (v := ?_) rfl (by kernel_rfl) (by kernel_rfl) (by kernel_rfl) (fun _ _ _ h => h) (Or.inl ⟨by rfl, ?_⟩) (by assumption) ?_
                rotate_left
                · intro w' hSw
                  try dsimp only at hSw
                  go_simp
                  try with_reducible rfl
                try simp only [Act.put, List.setIfInBounds_toArray, List.set_cons_zero, List.set_cons_succ]
                refine wpAnyH_done (by kernel_rfl) ?_ _
                go_wp2_with fail
                go_roundw
                case rel => exact ⟨i + 1, by omega, by go_num, Lib.hid (below_drewN HBX.out _)⟩
                case measure => simp [intOf]; omega
              · have HRR := Lib.hid (HRS.out.2 hcap)
                clear HRS HRW hLC
                have HDT : decide ((((RR d).drop o).take (M - o)) = l2) = true := decide_eq_true (by rw [HMT.out, HTL.out]; exact HTT.out)
                have hSM := SameW_c (A3.map fun x => x.add o) A2 (M - o) t (C3 - o) C2 _ l2 (wr.alloc (.cells #[.int .i64 (d : Int), .int .i64 (o : Int)] 37)).drew (HRR.out.drewN 1).row (HR2.out.drewN 1)
                rw [HDT] at hSM
                have HSM := Lib.hid hSM
                clear hSM HDT HRR HR2
                have HBX2 := HBX
                go_wp2_with fail
                generalize wr.alloc (.cells #[.int .i64 (d : Int), .int .i64 (o : Int)] 37) = W10 at *
                generalize wr.heap.size = q18 at *
                refine wp_region_held_drew (S := fun W' => W'.cell? ⟨q18, 0, none⟩ = some (.int .i64 (d : Int)) ∧ W'.cell? ⟨q18, 1, none⟩ = some (.int .i64 (o : Int)) ∧ W'.cell? ⟨gR, d, none⟩ = some (.slice A3 L C3)) (by kernel_rfl) ?_ (fun hHeld => ?_)
                · go_keep
                refine wpAnyH_take (i := 0) (oi := { dst := some 122, op := _, type := _, pos := _, after := _, guard := _ }) (v := ?_) rfl (by kernel_rfl) (by kernel_rfl) (by kernel_rfl) (fun _ _ _ h => h) (Or.inl ⟨by rfl, ?_⟩) (by assumption) ?_
                rotate_left
                · intro w' hSw
                  try dsimp only at hSw
                  go_simp
                  try with_reducible rfl
                try simp only [Act.put, List.setIfInBounds_toArray, List.set_cons_zero, List.set_cons_succ]
                refine wpAnyH_take (i := 1) (oi := { dst := some 123, op := _, type := _, pos := _, after := _, guard := _ }) (v := ?_) rfl (by kernel_rfl) (by kernel_rfl) (by kernel_rfl) (fun _ _ _ h => h) (Or.inl ⟨by rfl, ?_⟩) (by assumption) ?_
                rotate_left
                · intro w' hSw
                  try dsimp only at hSw
                  go_simp
                  try with_reducible rfl
                try simp only [Act.put, List.setIfInBounds_toArray, List.set_cons_zero, List.set_cons_succ]
                refine wpAnyH_take (i := 2) (oi := { dst := some 124, op := _, type := _, pos := _, after := _, guard := _ }) (v := ?_) rfl (by kernel_rfl) (by kernel_rfl) (by kernel_rfl) (fun _ _ _ h => h) (Or.inl ⟨by rfl, ?_⟩) (by assumption) ?_
                rotate_left
                · intro w' hSw
                  try dsimp only at hSw
                  go_simp
                  try with_reducible rfl
                try simp only [Act.put, List.setIfInBounds_toArray, List.set_cons_zero, List.set_cons_succ]
                refine wpAnyH_take (i := 3) (oi := { dst := some 125, op := _, type := _, pos := _, after := _, guard := _ }) (v := ?_) rfl (by kernel_rfl) (by kernel_rfl) (by kernel_rfl) (fun _ _ _ h => h) (Or.inl ⟨by rfl, ?_⟩) (by assumption) ?_
                rotate_left
                · intro w' hSw
                  try dsimp only at hSw
                  go_simp
                  try with_reducible rfl
                try simp only [Act.put, List.setIfInBounds_toArray, List.set_cons_zero, List.set_cons_succ]
                refine wpAnyH_take (i := 4) (oi := { dst := some 126, op := _, type := _, pos := _, after := _, guard := _ }) (v := ?_) rfl (by kernel_rfl) (by kernel_rfl) (by kernel_rfl) (fun _ _ _ h => h) (Or.inl ⟨by rfl, ?_⟩) (by assumption) ?_
                rotate_left
                · intro w' hSw
                  try dsimp only at hSw
                  go_simp
                  try with_reducible rfl
                try simp only [Act.put, List.setIfInBounds_toArray, List.set_cons_zero, List.set_cons_succ]
                refine wpAnyH_take (i := 5) (oi := { dst := some 127, op := _, type := _, pos := _, after := _, guard := _ }) (v := ?_) rfl (by kernel_rfl) (by kernel_rfl) (by kernel_rfl) (fun _ _ _ h => h) (Or.inl ⟨by rfl, ?_⟩) (by assumption) ?_
                rotate_left
                · intro w' hSw
                  try dsimp only at hSw
                  go_simp
                  try with_reducible rfl
                try simp only [Act.put, List.setIfInBounds_toArray, List.set_cons_zero, List.set_cons_succ]
                refine wpAnyH_take (i := 6) (oi := { dst := some 128, op := _, type := _, pos := _, after := _, guard := _ }) (v := ?_) rfl (by kernel_rfl) (by kernel_rfl) (by kernel_rfl) (fun _ _ _ h => h) (Or.inl ⟨by rfl, ?_⟩) (by assumption) ?_
                rotate_left
                · intro w' hSw
                  try dsimp only at hSw
                  go_simp
                  try with_reducible rfl
                try simp only [Act.put, List.setIfInBounds_toArray, List.set_cons_zero, List.set_cons_succ]
                refine wpAnyH_take (i := 7) (oi := { dst := some 129, op := _, type := _, pos := _, after := _, guard := _ }) (v := ?_) rfl (by kernel_rfl) (by kernel_rfl) (by kernel_rfl) (fun _ _ _ h => h) (Or.inl ⟨by rfl, ?_⟩) (by assumption) ?_
                rotate_left
                · intro w' hSw
                  try dsimp only at hSw
                  go_simp
                  try with_reducible rfl
                try simp only [Act.put, List.setIfInBounds_toArray, List.set_cons_zero, List.set_cons_succ]
                refine wpAnyH_take (i := 8) (oi := { dst := some 130, op := _, type := _, pos := _, after := _, guard := _ }) (v := ?_) rfl (by kernel_rfl) (by kernel_rfl) (by kernel_rfl) (fun _ _ _ h => h) (Or.inl ⟨by rfl, ?_⟩) (by assumption) ?_
                rotate_left
                · intro w' hSw
                  try dsimp only at hSw
                  go_simp
                  try with_reducible rfl
                try simp only [Act.put, List.setIfInBounds_toArray, List.set_cons_zero, List.set_cons_succ]
                refine wpAnyH_take (i := 9) (oi := { dst := some 131, op := _, type := _, pos := _, after := _, guard := _ }) (v := ?_) rfl (by kernel_rfl) (by kernel_rfl) (by kernel_rfl) (fun _ _ _ h => h) (Or.inl ⟨by rfl, ?_⟩) (by assumption) ?_
                rotate_left
                · intro w' hSw
                  try dsimp only at hSw
                  go_simp
                  try with_reducible rfl
                try simp only [Act.put, List.setIfInBounds_toArray, List.set_cons_zero, List.set_cons_succ]
                refine wpAnyH_take (i := 10) (oi := { dst := some 132, op := _, type := _, pos := _, after := _, guard := _ }) (v := ?_) rfl (by kernel_rfl) (by kernel_rfl) (by kernel_rfl) (fun _ _ _ h => h) (Or.inl ⟨by rfl, ?_⟩) (by assumption) ?_
                rotate_left
                · intro w' hSw
                  try dsimp only at hSw
                  go_simp
                  try with_reducible rfl
                try simp only [Act.put, List.setIfInBounds_toArray, List.set_cons_zero, List.set_cons_succ]
                refine wpAnyH_take (i := 11) (oi := { dst := some 133, op := _, type := _, pos := _, after := _, guard := _ }) (v := ?_) rfl (by kernel_rfl) (by kernel_rfl) (by kernel_rfl) (fun _ _ _ h => h) (Or.inl ⟨by rfl, ?_⟩) (by assumption) ?_
                rotate_left
                · intro w' hSw
                  try dsimp only at hSw
                  go_simp
                  try with_reducible rfl
                try simp only [Act.put, List.setIfInBounds_toArray, List.set_cons_zero, List.set_cons_succ]
                refine wpAnyH_take (i := 12) (oi := { dst := some 134, op := _, type := _, pos := _, after := _, guard := _ }) (v := ?_) rfl (by kernel_rfl) (by kernel_rfl) (by kernel_rfl) (fun _ _ _ h => h) (Or.inl ⟨by rfl, ?_⟩) (by assumption) ?_
                rotate_left
                · intro w' hSw
                  try dsimp only at hSw
                  go_simp
                  try with_reducible rfl
                try simp only [Act.put, List.setIfInBounds_toArray, List.set_cons_zero, List.set_cons_succ]
                refine wpAnyH_take (i := 13) (oi := { dst := some 135, op := _, type := _, pos := _, after := _, guard := _ }) (v := ?_) rfl (by kernel_rfl) (by kernel_rfl) (by kernel_rfl) (fun _ _ _ h => h) (Or.inl ⟨by rfl, ?_⟩) (by assumption) ?_
                rotate_left
                · intro w' hSw
                  try dsimp only at hSw
                  go_simp
                  try with_reducible rfl
                try simp only [Act.put, List.setIfInBounds_toArray, List.set_cons_zero, List.set_cons_succ]
                refine wpAnyH_take (i := 14) (oi := { dst := some 136, op := _, type := _, pos := _, after := _, guard := _ }) (v := ?_) rfl (by kernel_rfl) (by kernel_rfl) (by kernel_rfl) (fun _ _ _ h => h) (Or.inl ⟨by rfl, ?_⟩) (by assumption) ?_
                rotate_left
                · intro w' hSw
                  try dsimp only at hSw
                  go_simp
                  try with_reducible rfl
                try simp only [Act.put, List.setIfInBounds_toArray, List.set_cons_zero, List.set_cons_succ]
                refine wpAnyH_take (i := 15) (oi := { dst := some 137, op := _, type := _, pos := _, after := _, guard := _ }) (v := ?_) rfl (by kernel_rfl) (by kernel_rfl) (by kernel_rfl) (fun _ _ _ h => h) (Or.inl ⟨by rfl, ?_⟩) (by assumption) ?_
                rotate_left
                · intro w' hSw
                  try dsimp only at hSw
                  go_simp
                  try with_reducible rfl
                try simp only [Act.put, List.setIfInBounds_toArray, List.set_cons_zero, List.set_cons_succ]
                refine wpAnyH_take (i := 16) (oi := { dst := some 138, op := _, type := _, pos := _, after := _, guard := _ }) (v := ?_) rfl (by kernel_rfl) (by kernel_rfl) (by kernel_rfl) (fun _ _ _ h => h) (Or.inl ⟨by rfl, ?_⟩) (by assumption) ?_
                rotate_left
                · intro w' hSw
                  try dsimp only at hSw
                  go_simp
                  try with_reducible rfl
                try simp only [Act.put, List.setIfInBounds_toArray, List.set_cons_zero, List.set_cons_succ]
                refine wpAnyH_take (i := 17) (oi := { dst := some 139, op := _, type := _, pos := _, after := _, guard := _ }) (v := ?_) rfl (by kernel_rfl) (by kernel_rfl) (by kernel_rfl) (fun _ _ _ h => h) (Or.inl ⟨by rfl, ?_⟩) (by assumption) ?_
                rotate_left
                · intro w' hSw
                  try dsimp only at hSw
                  go_simp
                  try with_reducible rfl
                try simp only [Act.put, List.setIfInBounds_toArray, List.set_cons_zero, List.set_cons_succ]
                refine wpAnyH_take (i := 18) (oi := { dst := some 140, op := _, type := _, pos := _, after := _, guard := _ }) (v := ?_) rfl (by kernel_rfl) (by kernel_rfl) (by kernel_rfl) (fun _ _ _ h => h) (Or.inl ⟨by rfl, ?_⟩) (by assumption) ?_
                rotate_left
                · intro w' hSw
                  try dsimp only at hSw
                  go_simp
                  try with_reducible rfl
                try simp only [Act.put, List.setIfInBounds_toArray, List.set_cons_zero, List.set_cons_succ]
                refine wpAnyH_take (i := 19) (oi := { dst := some 141, op := _, type := _, pos := _, after := _, guard := _ }) (v := ?_) rfl (by kernel_rfl) (by kernel_rfl) (by kernel_rfl) (fun _ _ _ h => h) (Or.inl ⟨by rfl, ?_⟩) (by assumption) ?_
                rotate_left
                · intro w' hSw
                  try dsimp only at hSw
                  go_simp
                  try with_reducible rfl
                try simp only [Act.put, List.setIfInBounds_toArray, List.set_cons_zero, List.set_cons_succ]
                refine wpAnyH_take (i := 20) (oi := { dst := some 142, op := _, type := _, pos := _, after := _, guard := _ }) (v := ?_) rfl (by kernel_rfl) (by kernel_rfl) (by kernel_rfl) (fun _ _ _ h => h) (Or.inl ⟨by rfl, ?_⟩) (by assumption) ?_
                rotate_left
                · intro w' hSw
                  try dsimp only at hSw
                  go_simp
                  try with_reducible rfl
                try simp only [Act.put, List.setIfInBounds_toArray, List.set_cons_zero, List.set_cons_succ]
                refine wpAnyH_take (i := 21) (oi := { dst := some 143, op := _, type := _, pos := _, after := _, guard := _ }) (v := ?_) rfl (by kernel_rfl) (by kernel_rfl) (by kernel_rfl) (fun _ _ _ h => h) (Or.inl ⟨by rfl, ?_⟩) (by assumption) ?_
                rotate_left
                · intro w' hSw
                  try dsimp only at hSw
                  go_simp
                  try with_reducible rfl
                try simp only [Act.put, List.setIfInBounds_toArray, List.set_cons_zero, List.set_cons_succ]
                refine wpAnyH_take (i := 22) (oi := { dst := some 144, op := _, type := _, pos := _, after := _, guard := _ }) (v := ?_) rfl (by kernel_rfl) (by kernel_rfl) (by kernel_rfl) (fun _ _ _ h => h) (Or.inl ⟨by rfl, ?_⟩) (by assumption) ?_
                rotate_left
                · intro w' hSw
                  try dsimp only at hSw
                  go_simp
                  try with_reducible rfl
                try simp only [Act.put, List.setIfInBounds_toArray, List.set_cons_zero, List.set_cons_succ]
                refine wpAnyH_take (i := 23) (oi := { dst := some 145, op := _, type := _, pos := _, after := _, guard := _ }) (v := ?_) rfl (by kernel_rfl) (by kernel_rfl) (by kernel_rfl) (fun _ _ _ h => h) (Or.inl ⟨by rfl, ?_⟩) (by assumption) ?_
                rotate_left
                · intro w' hSw
                  try dsimp only at hSw
                  go_simp
                  try with_reducible rfl
                try simp only [Act.put, List.setIfInBounds_toArray, List.set_cons_zero, List.set_cons_succ]
                refine wpAnyH_take (i := 24) (oi := { dst := some 146, op := _, type := _, pos := _, after := _, guard := _ }) (v := ?_) rfl (by kernel_rfl) (by kernel_rfl) (by kernel_rfl) (fun _ _ _ h => h) (Or.inl ⟨by rfl, ?_⟩) (by assumption) ?_
                rotate_left
                · intro w' hSw
                  try dsimp only at hSw
                  go_simp
                  try with_reducible rfl
                try simp only [Act.put, List.setIfInBounds_toArray, List.set_cons_zero, List.set_cons_succ]
                refine wpAnyH_take (i := 25) (oi := { dst := some 147, op := _, type := _, pos := _, after := _, guard := _ }) (v := ?_) rfl (by kernel_rfl) (by kernel_rfl) (by kernel_rfl) (fun _ _ _ h => h) (Or.inl ⟨by rfl, ?_⟩) (by assumption) ?_
                rotate_left
                · intro w' hSw
                  try dsimp only at hSw
                  go_simp
                  try with_reducible rfl
                try simp only [Act.put, List.setIfInBounds_toArray, List.set_cons_zero, List.set_cons_succ]
                refine wpAnyH_take (i := 26) (oi := { dst := some 148, op := _, type := _, pos := _, after := _, guard := _ }) (v := ?_) rfl (by kernel_rfl) (by kernel_rfl) (by kernel_rfl) (fun _ _ _ h => h) (Or.inl ⟨by rfl, ?_⟩) (by assumption) ?_
                rotate_left
                · intro w' hSw
                  try dsimp only at hSw
                  go_simp
                  try with_reducible rfl
                try simp only [Act.put, List.setIfInBounds_toArray, List.set_cons_zero, List.set_cons_succ]
                refine wpAnyH_take (i := 27) (oi := { dst := some 149, op := _, type := _, pos := _, after := _, guard := _ }) (v := ?_) rfl (by kernel_rfl) (by kernel_rfl) (by kernel_rfl) (fun _ _ _ h => h) (Or.inl ⟨by rfl, ?_⟩) (by assumption) ?_
                rotate_left
                · intro w' hSw
                  try dsimp only at hSw
                  go_simp
                  try with_reducible rfl
                try simp only [Act.put, List.setIfInBounds_toArray, List.set_cons_zero, List.set_cons_succ]
                refine wpAnyH_take (i := 28) (oi := { dst := some 150, op := _, type := _, pos := _, after := _, guard := _ }) (v := ?_) rfl (by kernel_rfl) (by kernel_rfl) (by kernel_rfl) (fun _ _ _ h => h) (Or.inl ⟨by rfl, ?_⟩) (by assumption) ?_
                rotate_left
                · intro w' hSw
                  try dsimp only at hSw
                  go_simp
                  try with_reducible rfl
                try simp only [Act.put, List.setIfInBounds_toArray, List.set_cons_zero, List.set_cons_succ]
                refine wpAnyH_take (i := 29) (oi := { dst := some 151, op := _, type := _, pos := _, after := _, guard := _ }) (v := ?_) rfl (by kernel_rfl) (by kernel_rfl) (by kernel_rfl) (fun _ _ _ h => h) (Or.inl ⟨by rfl, ?_⟩) (by assumption) ?_
                rotate_left
                · intro w' hSw
                  try dsimp only at hSw
                  go_simp
                  try with_reducible rfl
                try simp only [Act.put, List.setIfInBounds_toArray, List.set_cons_zero, List.set_cons_succ]
                refine wpAnyH_take (i := 30) (oi := { dst := some 152, op := _, type := _, pos := _, after := _, guard := _ }) (v := ?_) rfl (by kernel_rfl) (by kernel_rfl) (by kernel_rfl) (fun _ _ _ h => h) (Or.inl ⟨by rfl, ?_⟩) (by assumption) ?_
                rotate_left
                · intro w' hSw
                  try dsimp only at hSw
                  go_simp
                  try with_reducible rfl
                try simp only [Act.put, List.setIfInBounds_toArray, List.set_cons_zero, List.set_cons_succ]
                refine wpAnyH_take (i := 31) (oi := { dst := some 153, op := _, type := _, pos := _, after := _, guard := _ }) (v := ?_) rfl (by kernel_rfl) (by kernel_rfl) (by kernel_rfl) (fun _ _ _ h => h) (Or.inl ⟨by rfl, ?_⟩) (by assumption) ?_
                rotate_left
                · intro w' hSw
                  try dsimp only at hSw
                  go_simp
                  try with_reducible rfl
                try simp only [Act.put, List.setIfInBounds_toArray, List.set_cons_zero, List.set_cons_succ]
                refine wpAnyH_take (i := 32) (oi := { dst := some 154, op := _, type := _, pos := _, after := _, guard := _ }) (v := ?_) rfl (by kernel_rfl) (by kernel_rfl) (by kernel_rfl) (fun _ _ _ h => h) (Or.inl ⟨by rfl, ?_⟩) (by assumption) ?_
                rotate_left
                · intro w' hSw
                  try dsimp only at hSw
                  go_simp
                  try with_reducible rfl
                try simp only [Act.put, List.setIfInBounds_toArray, List.set_cons_zero, List.set_cons_succ]
                refine wpAnyH_take (i := 33) (oi := { dst := some 155, op := _, type := _, pos := _, after := _, guard := _ }) (v := ?_) rfl (by kernel_rfl) (by kernel_rfl) (by kernel_rfl) (fun _ _ _ h => h) (Or.inl ⟨by rfl, ?_⟩) (by assumption) ?_
                rotate_left
                · intro w' hSw
                  try dsimp only at hSw
                  go_simp
                  try with_reducible rfl
                try simp only [Act.put, List.setIfInBounds_toArray, List.set_cons_zero, List.set_cons_succ]
                refine wpAnyH_take (i := 34) (oi := { dst := some 156, op := _, type := _, pos := _, after := _, guard := _ }) (v := ?_) rfl (by kernel_rfl) (by kernel_rfl) (by kernel_rfl) (fun _ _ _ h => h) (Or.inl ⟨by rfl, ?_⟩) (by assumption) ?_
                rotate_left
                · intro w' hSw
                  try dsimp only at hSw
                  go_simp
                  try with_reducible rfl
                try simp only [Act.put, List.setIfInBounds_toArray, List.set_cons_zero, List.set_cons_succ]
                refine wpAnyH_take (i := 35) (oi := { dst := some 157, op := _, type := _, pos := _, after := _, guard := _ }) (v := ?_) rfl (by kernel_rfl) (by kernel_rfl) (by kernel_rfl) (fun _ _ _ h => h) (Or.inl ⟨by rfl, ?_⟩) (by assumption) ?_
                rotate_left
                · intro w' hSw
                  try dsimp only at hSw
                  go_simp
                  try with_reducible rfl
                try simp only [Act.put, List.setIfInBounds_toArray, List.set_cons_zero, List.set_cons_succ]
                refine wpAnyH_take (i := 36) (oi := { dst := some 158, op := _, type := _, pos := _, after := _, guard := _ }) (v := ?_) rfl (by kernel_rfl) (by kernel_rfl) (by kernel_rfl) (fun _ _ _ h => h) (Or.inl ⟨by rfl, ?_⟩) (by assumption) ?_
                rotate_left
                · intro w' hSw
                  try dsimp only at hSw
                  go_simp
                  try with_reducible rfl
                try simp only [Act.put, List.setIfInBounds_toArray, List.set_cons_zero, List.set_cons_succ]
                refine wpAnyH_take (i := 37) (oi := { dst := some 159, op := _, type := _, pos := _, after := _, guard := _ }) (v := ?_) rfl (by kernel_rfl) (by kernel_rfl) (by kernel_rfl) (fun _ _ _ h => h) (Or.inl ⟨by rfl, ?_⟩) (by assumption) ?_
                rotate_left
                · intro w' hSw
                  try dsimp only at hSw
                  go_simp
                  try with_reducible rfl
                try simp only [Act.put, List.setIfInBounds_toArray, List.set_cons_zero, List.set_cons_succ]
                refine wpAnyH_take (i := 38) (oi := { dst := some 160, op := _, type := _, pos := _, after := _, guard := _ }) (v := ?_) rfl (by kernel_rfl) (by kernel_rfl) (by kernel_rfl) (fun _ _ _ h => h) (Or.inl ⟨by rfl, ?_⟩) (by assumption) ?_
                rotate_left
                · intro w' hSw
                  try dsimp only at hSw
                  go_simp
                  try with_reducible rfl
                try simp only [Act.put, List.setIfInBounds_toArray, List.set_cons_zero, List.set_cons_succ]
                refine wpAnyH_take (i := 39) (oi := { dst := some 161, op := _, type := _, pos := _, after := _, guard := _ }) (v := ?_) rfl (by kernel_rfl) (by kernel_rfl) (by kernel_rfl) (fun _ _ _ h => h) (Or.inl ⟨by rfl, ?_⟩) (by assumption) ?_
                rotate_left
                · intro w' hSw
                  try dsimp only at hSw
                  go_simp
                  try with_reducible rfl
                try simp only [Act.put, List.setIfInBounds_toArray, List.set_cons_zero, List.set_cons_succ]
                refine wpAnyH_take (i := 40) (oi := { dst := some 162, op := _, type := _, pos := _, after := _, guard := _ }) (v := ?_) rfl (by kernel_rfl) (by kernel_rfl) (by kernel_rfl) (fun _ _ _ h => h) (Or.inl ⟨by rfl, ?_⟩) (by assumption) ?_
                rotate_left
                · intro w' hSw
                  try dsimp only at hSw
                  go_simp
                  try with_reducible rfl
                try simp only [Act.put, List.setIfInBounds_toArray, List.set_cons_zero, List.set_cons_succ]
                refine wpAnyH_take (i := 41) (oi := { dst := some 163, op := _, type := _, pos := _, after := _, guard := _ }) (v := ?_) rfl (by kernel_rfl) (by kernel_rfl) (by kernel_rfl) (fun _ _ _ h => h) (Or.inl ⟨by rfl, ?_⟩) (by assumption) ?_
                rotate_left
                · intro w' hSw
                  try dsimp only at hSw
                  go_simp
                  try with_reducible rfl
                try simp only [Act.put, List.setIfInBounds_toArray, List.set_cons_zero, List.set_cons_succ]
                refine wpAnyH_take (i := 42) (oi := { dst := some 164, op := _, type := _, pos := _, after := _, guard := _ }) (v := ?_) rfl (by kernel_rfl) (by kernel_rfl) (by kernel_rfl) (fun _ _ _ h => h) (Or.inl ⟨by rfl, ?_⟩) (by assumption) ?_
                rotate_left
                · intro w' hSw
                  try dsimp only at hSw
                  go_simp
                  try with_reducible rfl
                try simp only [Act.put, List.setIfInBounds_toArray, List.set_cons_zero, List.set_cons_succ]
                refine wpAnyH_take (i := 43) (oi := { dst := some 165, op := _, type := _, pos := _, after := _, guard := _ }) (v := ?_) rfl (by kernel_rfl) (by kernel_rfl) (by kernel_rfl) (fun _ _ _ h => h) (Or.inl ⟨by rfl, ?_⟩) (by assumption) ?_
                rotate_left
                · intro w' hSw
                  try dsimp only at hSw
                  go_simp
                  try with_reducible rfl
                try simp only [Act.put, List.setIfInBounds_toArray, List.set_cons_zero, List.set_cons_succ]
                refine wpAnyH_ready (rs := [44]) (by kernel_rfl) (by simp) ?_
                refine AllReadyH.cons (o := { dst := some 166, op := _, type := _, pos := _, after := _, guard := _ }) rfl (fun K hK => ?_) AllReadyH.nil
                go_simp
                go_at_call 20
                refine HSM.out.mono ?_
                rintro e _ ⟨rfl, q, rfl⟩
                try go_wp2_with fail
                refine hK.out _ _ ?_ (fun hHeld => ?_)
                · exact ⟨y0, y1, y2⟩
                clear hK K
                try simp only [Act.put, List.setIfInBounds_toArray, List.set_cons_zero, List.set_cons_succ]
                refine wpAnyH_take (i := 45) (oi := { dst := some 167, op := _, type := _, pos := _, after := _, guard := _ }) (v := ?_) rfl (by kernel_rfl) (by kernel_rfl) (by kernel_rfl) (fun _ _ _ h => h) (Or.inl ⟨by rfl, ?_⟩) (by assumption) ?_
                rotate_left
                · intro w' hSw
                  try dsimp only at hSw
                  go_simp
                  try with_reducible rfl
                try simp only [Act.put, List.setIfInBounds_toArray, List.set_cons_zero, List.set_cons_succ]
                refine wpAnyH_take (i := 46) (oi := { dst := some 168, op := _, type := _, pos := _, after := _, guard := _ }) (v := ?_) rfl (by kernel_rfl) (by kernel_rfl) (by kernel_rfl) (fun _ _ _ h => h) (Or.inl ⟨by rfl, ?_⟩) (by assumption) ?_
                rotate_left
                · intro w' hSw
                  try dsimp only at hSw
                  go_simp
                  try with_reducible rfl
                try simp only [Act.put, List.setIfInBounds_toArray, List.set_cons_zero, List.set_cons_succ]
                refine wpAnyH_done (by kernel_rfl) ?_ _
                go_wp2_with fail
                go_roundw
                case rel => exact ⟨i + 1, by omega, by go_num, Lib.hid (below_drewN HBX.out _)⟩
                case measure => simp [intOf]; omega
            · obtain rfl : i = np := by omega
              have HA11 := Lib.hid (HA9.out.below hbx.out)
              have HI11 := Lib.hid (HI9.out.below hbx.out)
              have HB11 := Lib.hid (HB9.out.trans (hbx.out.mono HB9.out.size))
              clear HA9 HI9 HB9 hbx
              go_wp2_with fail
              refine (Join_c HA11.out.min (by omega) (fun r hr => by have := HLEN.out r; show (RR r).length ≤ _; omega)).mono ?_
              rintro e W12 ⟨gJ, cJ, rfl, hoJ, hbJ⟩
              have HJ := Lib.hid (Row.of_own hoJ)
              have HAL := Lib.hid (HI11.out.all.below hbJ).row
              have HB12 := Lib.hid (HB11.out.trans (hbJ.mono HB11.out.size))
              clear hoJ hbJ HI11 HB11
              go_wp2_with fail
              refine (SameW_c _ _ _ _ _ _ _ _ _ HJ.out HAL.out).mono ?_
              rintro e _ ⟨rfl, q, rfl⟩
              rw [decide_eq_true HFLT.out]
              have HB13 := Lib.hid (below_drewN HB12.out q)
              clear HJ HAL HB12
              go_wp2
              go_ret
              exact ⟨rfl, HB13.out⟩
set_option maxHeartbeats 2000000 in
theorem walk_SpanFills (w : World) (a : Int) (ha : (Lit.int .i64 a).wf = true) (A : Option Addr) (n cap : Nat) (K : Nat → Int) (RA : Nat → Option Addr) (RL RC : Nat → Nat) (R : Nat → List F) (h : OIn w A n cap K RA RL RC R) :
    Calls Try.prog 4 #[.int .i64 a, .slice A n cap] w fun e w' => e = .returned (.bool true) ∧ Below w.heap.size w w' := by
  by_cases hm : fewO n RL ∧ 5 ≤ a ∧ a ≤ 16777216
  · obtain ⟨hf, h5, h6⟩ := hm
    obtain ⟨S, rfl⟩ : ∃ S : Nat, a = (S : Int) := ⟨a.toNat, by omega⟩
    exact fills_main w S n cap A K RA RL RC R h hf (by omega) (by omega)
  · have H := Lib.hid h
    obtain ⟨fv, hfv⟩ : ∃ fv, fv = decide (fewO n RL) := ⟨_, rfl⟩
    have HFV := Lib.hid hfv
    have HM := Lib.hid hm
    clear h hm hfv
    go_enter Try.func4, Try.ntmps4
    go_wp2_with fail
    refine (alive22_c _).mono ?_
    rintro e W1 ⟨rfl, hb1⟩
    have HB1 := Lib.hid hb1
    clear hb1
    go_wp2_with fail
    refine (New_c a ha W1).mono ?_
    rintro e W2 (⟨hno, rfl, hb2⟩ | ⟨S', p, rfl, h5, h6, rfl, hb2, hs2⟩)
    · have HB2 := Lib.hid (HB1.out.trans (hb2.mono HB1.out.size))
      have e1 : chkS a = 1 := by unfold chkS at hno ⊢; split <;> simp_all
      rw [e1]
      clear hb2 hno e1 HM
      go_wp2_with fail
      refine (few22_c (H.out.below HB2.out)).mono ?_
      rintro e W3 ⟨rfl, hb3⟩
      rw [← HFV.out]
      have HB3 := Lib.hid (HB2.out.trans (hb3.mono HB2.out.size))
      clear hb3
      cases fv
      · go_wp2
        go_ret
        exact ⟨rfl, HB3.out⟩
      · go_wp2
        go_ret
        exact ⟨rfl, HB3.out⟩
    · have HB2 := Lib.hid (HB1.out.trans (hb2.mono HB1.out.size))
      have HD : Hid (fv = false) := by
        unfold Hid
        rw [HFV.out]
        exact decide_eq_false fun hf => HM.out ⟨hf, by omega, by omega⟩
      clear hb2 HM hs2
      go_wp2_with fail
      refine (few22_c (H.out.below HB2.out)).mono ?_
      rintro e W3 ⟨rfl, hb3⟩
      rw [← HFV.out, HD.out]
      have HB3 := Lib.hid (HB2.out.trans (hb3.mono HB2.out.size))
      clear hb3
      go_wp2
      go_ret
      exact ⟨rfl, HB3.out⟩
end Go.Proofs.Ytkijagodedmipaa
