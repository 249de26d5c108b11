/-
  COINS TWO BY TWO. No conditions but how many they are.
  THE TIERS OF COINS, AND WHAT IS BOUGHT. No conditions but how many symbols there are.
-/
import Derived.Test.YtldgdofefcehnaaGreatDoorLenD
import Derived.RangeFuncWrites
import Derived.RangeFuncCalls
import Derived.RangeFuncNested
import Derived.Test.YtldgdofefcehnaaGreatDoorLenA
import Derived.Lib.MinMax
namespace Go.Proofs.YtldgdofefcehnaaGreatDoor
section
open Go.RowKit Go.Shelf
set_option maxRecDepth 100000
set_option linter.unusedVariables false
attribute [local go_sem] Oper.semAt_some
def pairW (T : List (Nat × Bool)) (k : Nat) : Nat := cw T (k * 2) + cw T (k * 2 + 1)
theorem pairs_range : ∀ T : List (Nat × Bool), pairsC T = (List.range (T.length / 2)).map (pairW T)
 | [] => rfl
 | [c] => by simp [pairsC]
 | a :: b :: T => by
  have h := pairs_range T
  have e : (a :: b :: T).length / 2 = T.length / 2 + 1 := by simp only [List.length_cons]; omega
  rw [e, List.range_succ_eq_map, List.map_cons, List.map_map, show pairsC (a :: b :: T) = (a.1 + b.1) :: pairsC T from rfl, h]
  congr 1
  refine List.map_congr_left fun k _ => ?_
  show pairW T k = pairW (a :: b :: T) (k + 1)
  unfold pairW
  rw [show (k + 1) * 2 = k * 2 + 1 + 1 by omega]
  rfl
theorem own_snocC {M : Nat} {W : World} {base : Nat} {v : Value} {pre : List (Fin M)} {x : Fin M} (f : Fin M → Nat) (h : W.ownsRow base 175 2 v (pre.length + 1) (cnC (pre.map fun k => (f k, false)) ++ cnC [(f x, false)])) :
  W.ownsRow base 175 2 v (pre ++ [x]).length (cnC ((pre ++ [x]).map fun k => (f k, false))) := by
 rw [← cnC_append] at h
 simpa using h
theorem stepIn_append_lies {F : Fence} {m : Nat} {P : Program} {w : World} {ops : Array Oper} {o : Oper} {a : Act} {K : Act → World → Prop} {Q : Exit → Act → World → Prop} {E : Prop} (hgd : o.guard = none) (s x : Operand) (t : TypeId)
  (ho : o.op = .call { callee := .builtin .append, args := #[s, x], argTypes := #[t, t] })
  (base : Nat) (e : TypeId) (i : TypeInfo) (z : Value) (size bytes : Nat) (ht : P.underlying t = some (.slice e)) (hi : P.info? e = some i) (hz : i.zero = some z)
  (hsize : i.size = size) (hby : i.bytes = bytes) (hzs : z.cells.size = size) (hsz : 0 < size)
  (v : Value) (n : Nat) (xs : List Value) (hs : a.eval s = v) (hown : w.ownsRow base e size v n xs)
  (ad : Addr) (k c : Nat) (news : List Value) (hx : a.eval x = .slice (some ad) k c) (hl : news.length = k * size) (hnews : ∀ j u, news[j]? = some u → w.cell? (ad.add j) = some u) (h1 : ∀ u ∈ news, u.oneCell' = true)
  (hk : 0 < k) (h63 : n + k ≤ maxLen) (hbytes : (n + k) * bytes ≤ 140737488355328) (hbase : base ≤ w.heap.size) (H : Nat) (hH : w.heap.size = H)
  (h : ∀ g cap w', w'.ownsRow base e size (.slice (some ⟨g, 0, none⟩) (n + k) cap) (n + k) (xs ++ news) → w.grownBy w' v.ownBlock → (v.ownBlock = some g ∨ g = H) → g < w'.heap.size → K (a.put o.dst (.slice (some ⟨g, 0, none⟩) (n + k) cap)) w') :
  if Region.wanted o (yielded ops a.tmps) = true then Oper.wpIn F m P o a w K Q else E := by
 have hw : Region.wanted o (yielded ops a.tmps) = true := by simp [Region.wanted, hgd]
 rw [if_pos hw]
 obtain ⟨g, cap, w', hrun, r1, r2, r3, r4⟩ := run_append_lies (P := P) (w := w) t o.type base e i z size bytes ht hi hz hsize hby hzs hsz v n xs hown ad k c news hl hnews h1 hk h63 hbytes hbase H hH
 unfold Oper.wpIn
 refine ⟨?_, ?_⟩
 ·simp [Oper.about, ho, resolve, Target.leads, Sem.run_pure]
 ·rw [Oper.semAt_plain F _ _ (by rw [ho]; intro c hc'; cases hc')]
  simp [execOp, ho, resolve, invoke, builtin, hs, hx, hrun, Result.andThen]
  exact h g cap w' r1 r2 r3 r4
theorem wpAnyIn_round {F : Fence} {l n : Nat} {P : Program} {md : Region.Mode} {ops : Array Oper} {Q : Exit → Act → World → Prop} (hF : F.round = none) (hd : ∀ (i : Nat) (o : Oper), ops[i]? = some o → ∀ c, o.op ≠ .defer c) :
  ∀ fuel listed a w, wpAnyIn F n P md ops Q fuel listed a w → wpAnyIn (F.inRound l) n P md ops Q fuel listed a w := by
 intro fuel
 induction fuel with
 | zero => intro listed a w h; exact h
 | succ fuel ih =>
  intro listed a w h
  refine ⟨h.1, fun i hi => ?_⟩
  have h2 := h.2 i hi
  unfold wpOpIn at h2 ⊢
  cases ho : ops[i]? with
  | none => rw [ho] at h2; exact ih _ _ _ h2
  | some o =>
   rw [ho] at h2
   simp only at h2 ⊢
   split at h2
   ·rename_i hw
    rw [if_pos hw]
    have h3 := Oper.wpIn_mono (K' := wpAnyIn (F.inRound l) n P md ops Q fuel (listed.setIfInBounds i true)) (fun a w h => ih _ a w h) h2
    refine ⟨h3.1, ?_⟩
    have h4 := h3.2
    rw [Oper.semAt_plain F _ _ (hd i o ho)] at h4
    rw [Oper.semAt_plain (F.inRound l) _ _ (hd i o ho)]
    exact h4
   ·rename_i hw
    rw [if_neg hw]
    exact ⟨h2.1, ih _ _ _ h2.2⟩
theorem two_cells4 (w : World) (x : Nat) (q : Bool) : ∀ j u, (cnC [(x, q)])[j]? = some u → ((w.alloc (.cells #[.int .i64 (x : Nat), .bool q] 175)).drew).cell? ((⟨w.heap.size, 0, none⟩ : Addr).add j) = some u := by
 have h := World.news_of_block (cs := #[.int .i64 (x : Nat), .bool q]) (t := 175) (fr := (0, 0)) (heap_alloc_new w (.cells #[.int .i64 (x : Nat), .bool q] 175))
 exact h
theorem boxKeep {W w5 : World} {B B' n₀ k sz : Nat} {t e : TypeId} {u v x : Value} {xs : List Value} {o : Obj} (h : Boxed W B t u) (hte : t ≠ e) (hrow : W.ownsRow n₀ e sz v k xs) (hg : (W.alloc o).drew.grownBy w5 v.ownBlock) (hne : B ≠ B') : Boxed (w5.setCell ⟨B', 0, none⟩ x) B t u :=
 Boxed.other (Boxed.kept (W := (W.alloc o).drew) (h.alloc o) hg (h.not_row hte hrow)) hne x
set_option maxHeartbeats 8000000 in
theorem packs_in (b off n₀ cap : Nat) (T : List (Nat × Bool)) (w : World) (h : CRow w (some ⟨b, off, none⟩) n₀ (cw T) (cq T)) (hT : T.length = n₀) (hlt : b < w.heap.size) (hcap : n₀ ≤ cap) (hn : n₀ ≤ 2000) (hw : ∀ k, k < n₀ → cw T k < 1152921504606846976) :
  CallsIn Fence.wide 6 Tryz.prog 159 #[.slice (some ⟨b, off, none⟩) n₀ cap] w fun e W' => ∃ v, e = .returned v ∧ W'.ownsRow w.heap.size 175 2 v (n₀ / 2) (cnC (pks (pairsC T))) ∧ Below w.heap.size w W' := by
 obtain ⟨i0, hi, hz0, hz1, hz2⟩ := info_parts info_coin
 obtain ⟨N, hN⟩ : ∃ N, N = n₀ / 2 := ⟨_, rfl⟩
 obtain ⟨n, hnn⟩ : ∃ n, n = N * 2 := ⟨_, rfl⟩
 have hq : (n₀ : Int) / 2 = (N : Int) := by omega
 have hmul : (N : Int) * 2 = (n : Int) := by omega
 have hnle : n ≤ n₀ := by omega
 have hnc : n ≤ cap := by omega
 have hni : (n : Int) ≤ (cap : Int) := by omega
 have hbc : blkCount n 2 = N := by unfold blkCount; omega
 have HN := Lib.hid hN
 have HNN := Lib.hid hnn
 have HTT := Lib.hid hT
 clear hN hnn hT
 refine callsIn_of_wp_marks Tryz.func159 rfl trivial ?_ rfl
 simp only [Tryz.ntmps159, List.size_toArray, List.length_cons, List.length_nil, Nat.reduceAdd, Nat.reduceSub, Array.replicate_succ, Array.replicate_zero, List.push_toArray, List.append_toArray, List.nil_append, List.cons_append]
 gi_wp2_with (refine ⟨trivial, ?_⟩; gi_at_call 177; refine (chunk_in Fence.wide _ trivial rfl _ n cap 2 (by decide) (by decide) _).mono ?_; rintro e w' ⟨rfl, rfl⟩)
 have bO := Boxed.new w 117 (.slice none 0 0)
 obtain ⟨W0, hW0⟩ : ∃ W0, ((w.alloc (.cells #[.slice none 0 0] 117)).alloc (.cells #[.slice (some ⟨b, off, none⟩) n cap] 117)).alloc (.cells #[.int .i64 2] 3) = W0 := ⟨_, rfl⟩
 rw [hW0]
 have hB0 : Below w.heap.size w W0 := by rw [← hW0]; exact (((Below.refl _ w).alloc (Nat.le_refl _) _).alloc (by simp) _).alloc (by simp; omega) _
 have hsz : W0.heap.size = w.heap.size + 3 := by rw [← hW0]; simp
 have c1 : W0.cell? ⟨w.heap.size + 1, 0, none⟩ = some (.slice (some ⟨b, off, none⟩) n cap) := by
  rw [← hW0, World.cell?_alloc_lt _ _ _ (by simp)]
  have h := (Boxed.new (w.alloc (.cells #[.slice none 0 0] 117)) 117 (.slice (some ⟨b, off, none⟩) n cap)).cell
  rw [World.size_alloc] at h
  exact h
 have c2 : W0.cell? ⟨w.heap.size + 1 + 1, 0, none⟩ = some (.int .i64 2) := by
  rw [← hW0]
  have h := (Boxed.new ((w.alloc (.cells #[.slice none 0 0] 117)).alloc (.cells #[.slice (some ⟨b, off, none⟩) n cap] 117)) 3 (.int .i64 2)).cell
  rw [World.size_alloc, World.size_alloc] at h
  exact h
 have bO2 : Boxed W0 w.heap.size 117 (.slice none 0 0) := by rw [← hW0]; exact (bO.alloc _).alloc _
 have bS0 : Boxed W0 (w.heap.size + 1) 117 (.slice (some ⟨b, off, none⟩) n cap) := by
  rw [← hW0]
  have h := (Boxed.new (w.alloc (.cells #[.slice none 0 0] 117)) 117 (.slice (some ⟨b, off, none⟩) n cap)).alloc (.cells #[.int .i64 2] 3)
  rw [World.size_alloc] at h
  exact h
 have bN0 : Boxed W0 (w.heap.size + 1 + 1) 3 (.int .i64 2) := by
  rw [← hW0]
  have h := Boxed.new ((w.alloc (.cells #[.slice none 0 0] 117)).alloc (.cells #[.slice (some ⟨b, off, none⟩) n cap] 117)) 3 (.int .i64 2)
  rw [World.size_alloc, World.size_alloc] at h
  exact h
 have HC := Lib.hid h
 have HW := Lib.hid hw
 clear bO hW0 h hw
 refine wpIn_rangeFunc_ownG rfl (by omega) (gf := 182) (lb := #[.pointer (some ⟨w.heap.size + 1, 0, none⟩), .pointer (some ⟨w.heap.size + 1 + 1, 0, none⟩)]) rfl trivial (enters_of Tryz.func182 (by kernel_rfl) rfl)
  (chunk_stops Fence.wide (6 - 1) trivial rfl (by omega) (w.heap.size + 1) (w.heap.size + 1 + 1) w.heap.size b off n cap 2 (by omega) hnc (by decide) (by decide) N hbc.symm W0 (by omega) (by omega) c1 c2) Kc.trans (fun W l o o' h1 h2 h3 h4 => Kc.put (w := W0) (by omega) (by omega) (by omega) W l o o' h1 h2 h3 h4) (Below.refl _ _) (fun _ => rfl)
  (fun (pre : List (Fin N)) W => (∃ v, Boxed W w.heap.size 117 v ∧ W.ownsRow w.heap.size 175 2 v pre.length (cnC (pre.map fun k => (pairW T k.1, false))) ∧ (v = .slice none 0 0 ↔ pre = [])) ∧ (Boxed W (w.heap.size + 1) 117 (.slice (some ⟨b, off, none⟩) n cap) ∧ Boxed W (w.heap.size + 1 + 1) 3 (.int .i64 2)) ∧ Below w.heap.size w W)
  (fun _ _ _ => False)
  (OwnFrom.and (Own.from (holdsRow_own w.heap.size w.heap.size 117 175 2 (fun pre : List (Fin N) => pre.length) (fun pre => cnC (pre.map fun k => (pairW T k.1, false))) (fun pre v => v = .slice none 0 0 ↔ pre = [])) _) (OwnFrom.and (OwnFrom.and (Own.from (boxed_own (w.heap.size + 1) 117 (fun _ => .slice (some ⟨b, off, none⟩) n cap)) _) (Own.from (boxed_own (w.heap.size + 1 + 1) 3 (fun _ => .int .i64 2)) _)) (ownFrom_below (Nat.le_refl _) (by omega))))
  (fun _ _ _ _ _ hs _ _ => hs)
  ⟨⟨_, bO2, World.ownsRow_nil _ _ _ _, by simp⟩, ⟨bS0, bN0⟩, hB0⟩
  (fun k => { tmps := #[.slice (some ⟨b, off, none⟩) n₀ cap, undef, .slice none 0 0, .pointer (some ⟨w.heap.size, 0, none⟩), blkV b off n 2 k.1, .slice (some ⟨b, off, none⟩) n₀ cap, .slice (some ⟨b, off, none⟩) n₀ cap, .int .i64 n₀, .int .i64 N, .int .i64 n, .slice (some ⟨b, off, none⟩) n cap,
        .func (.func 182) #[] #[.pointer (some ⟨w.heap.size + 1, 0, none⟩), .pointer (some ⟨w.heap.size + 1 + 1, 0, none⟩)], blkV b off n 2 k.1, undef, undef, undef, undef, undef, undef, undef, undef, undef, undef, undef, undef, undef, undef], defers := [] }) ?assign ?body ?done ?stop
 case assign =>
  intro l x W K hK
  gi_wp2
  exact hK
 case body =>
  rintro ll pre x W ⟨⟨v, hv, hrow, hnil⟩, ⟨bS, bN⟩, hB⟩ hlt
  obtain ⟨k, hkN⟩ := x
  have hkn : k * 2 + 1 < n₀ := by have := HNN.out; omega
  obtain ⟨b', off', e1, hb1, h3, -⟩ := (HC.out.below hB).at_ (k := k * 2) (by omega)
  obtain ⟨b'', off'', e2, hb2, h4, -⟩ := (HC.out.below hB).at_ (k := k * 2 + 1) (by omega)
  injection e1 with e1
  injection e1 with e1 e1'
  injection e2 with e2
  injection e2 with e2 e2'
  subst e1 e1' e2 e2'
  obtain ⟨o, ho⟩ : ∃ o, o = off + k * 2 * 2 := ⟨_, rfl⟩
  rw [← ho] at h3
  rw [show off + (k * 2 + 1) * 2 = o + 2 by omega] at h4
  have hbv : blkV b off n 2 k = .slice (some ⟨b, o, none⟩) 2 2 := by
   unfold blkV blkLen
   rw [← ho, show min 2 (n - k * 2) = 2 by have := HNN.out; omega]
  have hx1 := HW.out (k * 2) (by omega)
  have hx2 := HW.out (k * 2 + 1) (by omega)
  obtain ⟨x1, hX1⟩ : ∃ x1, x1 = cw T (k * 2) := ⟨_, rfl⟩
  obtain ⟨x2, hX2⟩ : ∃ x2, x2 = cw T (k * 2 + 1) := ⟨_, rfl⟩
  rw [← hX1] at hx1 h3
  rw [← hX2] at hx2 h4
  obtain ⟨zz, hzz⟩ : ∃ zz, zz = x1 + x2 := ⟨_, rfl⟩
  have hzi : (x1 : Int) + (x2 : Int) = (zz : Int) := by omega
  have hzi2 : IntKind.i64.wrap ((x1 : Int) + (x2 : Int)) = (zz : Int) := (IntWalk.i64_in _ (by omega)).trans hzi
  have hzw : IntKind.i64.wrap (zz : Int) = (zz : Int) := IntWalk.i64_in _ (by omega)
  have HZZ : Hid (zz = pairW T k) := by unfold Hid pairW; rw [hzz, hX1, hX2]
  clear hzz hX1 hX2 hx1 hx2 ho
  have hpn : pre.length < 2000 := by omega
  rw [hbv]
  have hc := hv.cell
  have hcA := (hv.alloc (.cells #[.int .i64 (zz : Nat), .bool false] 175)).cell
  have h3A : ((W.drew).alloc (.cells #[.int .i64 (zz : Nat), .bool false] 175)).cell? ⟨b, o, none⟩ = some (.int .i64 (x1 : Nat)) := (World.cell?_alloc_lt _ _ _ (by simpa using hb1)).trans h3
  gi_wp2
  refine wpIn_region_any (by kernel_rfl) ?_
  refine wpAnyIn_round rfl (fun i o hi c h => ?_) _ _ _ _ ?_
  ·rcases i with _ | _ | _ | _ | _ | _ | _ | _ | _ | _ | _ | _ | _ | _ | i
   all_goals first | (simp at hi; done) | (simp at hi; subst hi; cases h)
  change wpAnyIn _ _ _ _ _ _ _ _ _ (World.drew W)
  -- BEGIN REGION
  refine wpAnyIn_take (i := 1) (v := .slice (some ⟨b, o, none⟩) 2 2) rfl rfl (by kernel_rfl) (by kernel_rfl) (by kernel_rfl) (fun _ _ _ h => h) ⟨Or.inl ⟨by rfl, by intro w; go_simp⟩, fun _ => rfl⟩ ?_
  refine wpAnyIn_take (i := 2) (v := .pointer (some ⟨b, o, none⟩)) rfl rfl (by kernel_rfl) (by kernel_rfl) (by kernel_rfl) (fun _ _ _ h => h) ⟨Or.inl ⟨by rfl, by intro w; go_simp⟩, fun _ => rfl⟩ ?_
  refine wpAnyIn_take (i := 3) (v := .pointer (some ⟨b, o, none⟩)) rfl rfl (by kernel_rfl) (by kernel_rfl) (by kernel_rfl) (fun _ _ _ h => h) ⟨Or.inl ⟨by rfl, by intro w; go_simp⟩, fun _ => rfl⟩ ?_
  refine wpAnyIn_take (i := 5) (v := .slice (some ⟨b, o, none⟩) 2 2) rfl rfl (by kernel_rfl) (by kernel_rfl) (by kernel_rfl) (fun _ _ _ h => h) ⟨Or.inl ⟨by rfl, by intro w; go_simp⟩, fun _ => rfl⟩ ?_
  refine wpAnyIn_take (i := 6) (v := .pointer (some ⟨b, o + 2, none⟩)) rfl rfl (by kernel_rfl) (by kernel_rfl) (by kernel_rfl) (fun _ _ _ h => h) ⟨Or.inl ⟨by rfl, by intro w; go_simp⟩, fun _ => rfl⟩ ?_
  refine wpAnyIn_take (i := 7) (v := .pointer (some ⟨b, o + 2, none⟩)) rfl rfl (by kernel_rfl) (by kernel_rfl) (by kernel_rfl) (fun _ _ _ h => h) ⟨Or.inl ⟨by rfl, by intro w; go_simp⟩, fun _ => rfl⟩ ?_
  refine wpAnyIn_ready (rs := [0, 4, 8]) (by kernel_rfl) (by simp) ?_
  refine AllReadyIn.cons rfl (fun K hK => ?_) (AllReadyIn.cons rfl (fun K hK => ?_) (AllReadyIn.cons rfl (fun K hK => ?_) AllReadyIn.nil))
  ·go_simp
   refine hK _ _ ?_; clear hK K
   refine wpAnyIn_ready (rs := [4, 8]) (by kernel_rfl) (by simp) ?_
   refine AllReadyIn.cons rfl (fun K hK => ?_) (AllReadyIn.cons rfl (fun K hK => ?_) AllReadyIn.nil)
   ·go_simp
    refine hK _ _ ?_; clear hK K
    refine wpAnyIn_ready (rs := [8]) (by kernel_rfl) (by simp) ?_
    refine AllReadyIn.cons rfl (fun K hK => ?_) AllReadyIn.nil
    go_simp
    refine hK _ _ ?_; clear hK K
    refine wpAnyIn_take (i := 9) (v := .int .i64 ((zz : Nat) : Int)) rfl rfl (by kernel_rfl) (by kernel_rfl) (by kernel_rfl) (fun _ _ _ h => h) ⟨Or.inl ⟨by rfl, by intro w; go_simp⟩, fun _ => rfl⟩ ?_
    refine wpAnyIn_take (i := 10) (v := .agg #[.int .i64 ((zz : Nat) : Int), .bool false]) rfl rfl (by kernel_rfl) (by kernel_rfl) (by kernel_rfl) (fun _ _ _ h => h) ⟨Or.inl ⟨by rfl, by intro w; go_simp⟩, fun _ => rfl⟩ ?_
    refine wpAnyIn_ready (rs := [11]) (by kernel_rfl) (by simp) ?_
    refine AllReadyIn.cons rfl (fun K hK => ?_) AllReadyIn.nil
    go_simp
    refine hK _ _ ?_; clear hK K
    refine wpAnyIn_ready (rs := [12]) (by kernel_rfl) (by simp) ?_
    refine AllReadyIn.cons rfl (fun K hK => ?_) AllReadyIn.nil
    refine stepIn_append_lies rfl (.tmp 13) (.tmp 24) 117 rfl w.heap.size 175 i0 (.agg #[.int .i64 0, .bool false]) 2 16 Tryz.underlying117 hi hz0 hz1 hz2 rfl (by decide) v pre.length (cnC (pre.map fun k => (pairW T k.1, false))) rfl ((hrow.alloc _).drew) ⟨W.heap.size, 0, none⟩ 1 1 (cnC [(zz, false)]) rfl rfl (two_cells4 W zz false) (cnC_one _) (by omega) (by unfold maxLen; omega) (by omega) (by have := hB.size; simp; omega) _ rfl ?_
    intro g5 c5 w5 hown5 hg5 _ _
    obtain ⟨hv1, hv2, hr2, hk2, hb2⟩ := Boxed.appended (W := W.drew) hv (by decide) hrow hB.size (Nat.le_refl _) hown5 hg5
    have hc1 := hv1.cell
    have hf1 := hv1.frozen
    refine hK _ _ ?_; clear hK K
    refine wpAnyIn_ready (rs := [13]) (by kernel_rfl) (by simp) ?_
    refine AllReadyIn.cons rfl (fun K hK => ?_) AllReadyIn.nil
    go_simp
    refine hK _ _ ?_; clear hK K
    refine wpAnyIn_done (by kernel_rfl) ?_ _
    exact ⟨((KeepsOthers.drew W).trans hk2).from _, ⟨(below_drewN (Below.refl _ W) 1).trans hb2, (boxKeep bS (by decide) hrow hg5 (by omega)).cell.trans bS.cell.symm, (boxKeep bN (by decide) hrow hg5 (by omega)).cell.trans bN.cell.symm⟩, ⟨_, hv2, own_snocC (M := N) (x := ⟨k, hkN⟩) (fun k => pairW T k.1) (by rw [HZZ.out] at hr2; exact hr2), by simp⟩, ⟨boxKeep bS (by decide) hrow hg5 (by omega), boxKeep bN (by decide) hrow hg5 (by omega)⟩, (below_drewN hB 1).trans hb2⟩
   ·go_simp
    refine hK _ _ ?_; clear hK K
    refine wpAnyIn_ready (rs := [4]) (by kernel_rfl) (by simp) ?_
    refine AllReadyIn.cons rfl (fun K hK => ?_) AllReadyIn.nil
    go_simp
    refine hK _ _ ?_; clear hK K
    refine wpAnyIn_take (i := 9) (v := .int .i64 ((zz : Nat) : Int)) rfl rfl (by kernel_rfl) (by kernel_rfl) (by kernel_rfl) (fun _ _ _ h => h) ⟨Or.inl ⟨by rfl, by intro w; go_simp⟩, fun _ => rfl⟩ ?_
    refine wpAnyIn_take (i := 10) (v := .agg #[.int .i64 ((zz : Nat) : Int), .bool false]) rfl rfl (by kernel_rfl) (by kernel_rfl) (by kernel_rfl) (fun _ _ _ h => h) ⟨Or.inl ⟨by rfl, by intro w; go_simp⟩, fun _ => rfl⟩ ?_
    refine wpAnyIn_ready (rs := [11]) (by kernel_rfl) (by simp) ?_
    refine AllReadyIn.cons rfl (fun K hK => ?_) AllReadyIn.nil
    go_simp
    refine hK _ _ ?_; clear hK K
    refine wpAnyIn_ready (rs := [12]) (by kernel_rfl) (by simp) ?_
    refine AllReadyIn.cons rfl (fun K hK => ?_) AllReadyIn.nil
    refine stepIn_append_lies rfl (.tmp 13) (.tmp 24) 117 rfl w.heap.size 175 i0 (.agg #[.int .i64 0, .bool false]) 2 16 Tryz.underlying117 hi hz0 hz1 hz2 rfl (by decide) v pre.length (cnC (pre.map fun k => (pairW T k.1, false))) rfl ((hrow.alloc _).drew) ⟨W.heap.size, 0, none⟩ 1 1 (cnC [(zz, false)]) rfl rfl (two_cells4 W zz false) (cnC_one _) (by omega) (by unfold maxLen; omega) (by omega) (by have := hB.size; simp; omega) _ rfl ?_
    intro g5 c5 w5 hown5 hg5 _ _
    obtain ⟨hv1, hv2, hr2, hk2, hb2⟩ := Boxed.appended (W := W.drew) hv (by decide) hrow hB.size (Nat.le_refl _) hown5 hg5
    have hc1 := hv1.cell
    have hf1 := hv1.frozen
    refine hK _ _ ?_; clear hK K
    refine wpAnyIn_ready (rs := [13]) (by kernel_rfl) (by simp) ?_
    refine AllReadyIn.cons rfl (fun K hK => ?_) AllReadyIn.nil
    go_simp
    refine hK _ _ ?_; clear hK K
    refine wpAnyIn_done (by kernel_rfl) ?_ _
    exact ⟨((KeepsOthers.drew W).trans hk2).from _, ⟨(below_drewN (Below.refl _ W) 1).trans hb2, (boxKeep bS (by decide) hrow hg5 (by omega)).cell.trans bS.cell.symm, (boxKeep bN (by decide) hrow hg5 (by omega)).cell.trans bN.cell.symm⟩, ⟨_, hv2, own_snocC (M := N) (x := ⟨k, hkN⟩) (fun k => pairW T k.1) (by rw [HZZ.out] at hr2; exact hr2), by simp⟩, ⟨boxKeep bS (by decide) hrow hg5 (by omega), boxKeep bN (by decide) hrow hg5 (by omega)⟩, (below_drewN hB 1).trans hb2⟩
  ·go_simp
   refine hK _ _ ?_; clear hK K
   refine wpAnyIn_ready (rs := [0, 8]) (by kernel_rfl) (by simp) ?_
   refine AllReadyIn.cons rfl (fun K hK => ?_) (AllReadyIn.cons rfl (fun K hK => ?_) AllReadyIn.nil)
   ·go_simp
    refine hK _ _ ?_; clear hK K
    refine wpAnyIn_ready (rs := [8]) (by kernel_rfl) (by simp) ?_
    refine AllReadyIn.cons rfl (fun K hK => ?_) AllReadyIn.nil
    go_simp
    refine hK _ _ ?_; clear hK K
    refine wpAnyIn_take (i := 9) (v := .int .i64 ((zz : Nat) : Int)) rfl rfl (by kernel_rfl) (by kernel_rfl) (by kernel_rfl) (fun _ _ _ h => h) ⟨Or.inl ⟨by rfl, by intro w; go_simp⟩, fun _ => rfl⟩ ?_
    refine wpAnyIn_take (i := 10) (v := .agg #[.int .i64 ((zz : Nat) : Int), .bool false]) rfl rfl (by kernel_rfl) (by kernel_rfl) (by kernel_rfl) (fun _ _ _ h => h) ⟨Or.inl ⟨by rfl, by intro w; go_simp⟩, fun _ => rfl⟩ ?_
    refine wpAnyIn_ready (rs := [11]) (by kernel_rfl) (by simp) ?_
    refine AllReadyIn.cons rfl (fun K hK => ?_) AllReadyIn.nil
    go_simp
    refine hK _ _ ?_; clear hK K
    refine wpAnyIn_ready (rs := [12]) (by kernel_rfl) (by simp) ?_
    refine AllReadyIn.cons rfl (fun K hK => ?_) AllReadyIn.nil
    refine stepIn_append_lies rfl (.tmp 13) (.tmp 24) 117 rfl w.heap.size 175 i0 (.agg #[.int .i64 0, .bool false]) 2 16 Tryz.underlying117 hi hz0 hz1 hz2 rfl (by decide) v pre.length (cnC (pre.map fun k => (pairW T k.1, false))) rfl ((hrow.alloc _).drew) ⟨W.heap.size, 0, none⟩ 1 1 (cnC [(zz, false)]) rfl rfl (two_cells4 W zz false) (cnC_one _) (by omega) (by unfold maxLen; omega) (by omega) (by have := hB.size; simp; omega) _ rfl ?_
    intro g5 c5 w5 hown5 hg5 _ _
    obtain ⟨hv1, hv2, hr2, hk2, hb2⟩ := Boxed.appended (W := W.drew) hv (by decide) hrow hB.size (Nat.le_refl _) hown5 hg5
    have hc1 := hv1.cell
    have hf1 := hv1.frozen
    refine hK _ _ ?_; clear hK K
    refine wpAnyIn_ready (rs := [13]) (by kernel_rfl) (by simp) ?_
    refine AllReadyIn.cons rfl (fun K hK => ?_) AllReadyIn.nil
    go_simp
    refine hK _ _ ?_; clear hK K
    refine wpAnyIn_done (by kernel_rfl) ?_ _
    exact ⟨((KeepsOthers.drew W).trans hk2).from _, ⟨(below_drewN (Below.refl _ W) 1).trans hb2, (boxKeep bS (by decide) hrow hg5 (by omega)).cell.trans bS.cell.symm, (boxKeep bN (by decide) hrow hg5 (by omega)).cell.trans bN.cell.symm⟩, ⟨_, hv2, own_snocC (M := N) (x := ⟨k, hkN⟩) (fun k => pairW T k.1) (by rw [HZZ.out] at hr2; exact hr2), by simp⟩, ⟨boxKeep bS (by decide) hrow hg5 (by omega), boxKeep bN (by decide) hrow hg5 (by omega)⟩, (below_drewN hB 1).trans hb2⟩
   ·go_simp
    refine hK _ _ ?_; clear hK K
    refine wpAnyIn_take (i := 9) (v := .int .i64 ((zz : Nat) : Int)) rfl rfl (by kernel_rfl) (by kernel_rfl) (by kernel_rfl) (fun _ _ _ h => h) ⟨Or.inl ⟨by rfl, by intro w; go_simp⟩, fun _ => rfl⟩ ?_
    refine wpAnyIn_take (i := 10) (v := .agg #[.int .i64 ((zz : Nat) : Int), .bool false]) rfl rfl (by kernel_rfl) (by kernel_rfl) (by kernel_rfl) (fun _ _ _ h => h) ⟨Or.inl ⟨by rfl, by intro w; go_simp⟩, fun _ => rfl⟩ ?_
    refine wpAnyIn_ready (rs := [0, 11]) (by kernel_rfl) (by simp) ?_
    refine AllReadyIn.cons rfl (fun K hK => ?_) (AllReadyIn.cons rfl (fun K hK => ?_) AllReadyIn.nil)
    ·go_simp
     refine hK _ _ ?_; clear hK K
     refine wpAnyIn_ready (rs := [11]) (by kernel_rfl) (by simp) ?_
     refine AllReadyIn.cons rfl (fun K hK => ?_) AllReadyIn.nil
     go_simp
     refine hK _ _ ?_; clear hK K
     refine wpAnyIn_ready (rs := [12]) (by kernel_rfl) (by simp) ?_
     refine AllReadyIn.cons rfl (fun K hK => ?_) AllReadyIn.nil
     refine stepIn_append_lies rfl (.tmp 13) (.tmp 24) 117 rfl w.heap.size 175 i0 (.agg #[.int .i64 0, .bool false]) 2 16 Tryz.underlying117 hi hz0 hz1 hz2 rfl (by decide) v pre.length (cnC (pre.map fun k => (pairW T k.1, false))) rfl ((hrow.alloc _).drew) ⟨W.heap.size, 0, none⟩ 1 1 (cnC [(zz, false)]) rfl rfl (two_cells4 W zz false) (cnC_one _) (by omega) (by unfold maxLen; omega) (by omega) (by have := hB.size; simp; omega) _ rfl ?_
     intro g5 c5 w5 hown5 hg5 _ _
     obtain ⟨hv1, hv2, hr2, hk2, hb2⟩ := Boxed.appended (W := W.drew) hv (by decide) hrow hB.size (Nat.le_refl _) hown5 hg5
     have hc1 := hv1.cell
     have hf1 := hv1.frozen
     refine hK _ _ ?_; clear hK K
     refine wpAnyIn_ready (rs := [13]) (by kernel_rfl) (by simp) ?_
     refine AllReadyIn.cons rfl (fun K hK => ?_) AllReadyIn.nil
     go_simp
     refine hK _ _ ?_; clear hK K
     refine wpAnyIn_done (by kernel_rfl) ?_ _
     exact ⟨((KeepsOthers.drew W).trans hk2).from _, ⟨(below_drewN (Below.refl _ W) 1).trans hb2, (boxKeep bS (by decide) hrow hg5 (by omega)).cell.trans bS.cell.symm, (boxKeep bN (by decide) hrow hg5 (by omega)).cell.trans bN.cell.symm⟩, ⟨_, hv2, own_snocC (M := N) (x := ⟨k, hkN⟩) (fun k => pairW T k.1) (by rw [HZZ.out] at hr2; exact hr2), by simp⟩, ⟨boxKeep bS (by decide) hrow hg5 (by omega), boxKeep bN (by decide) hrow hg5 (by omega)⟩, (below_drewN hB 1).trans hb2⟩
    ·go_simp
     refine hK _ _ ?_; clear hK K
     refine wpAnyIn_ready (rs := [0]) (by kernel_rfl) (by simp) ?_
     refine AllReadyIn.cons rfl (fun K hK => ?_) AllReadyIn.nil
     go_simp
     refine hK _ _ ?_; clear hK K
     refine wpAnyIn_ready (rs := [12]) (by kernel_rfl) (by simp) ?_
     refine AllReadyIn.cons rfl (fun K hK => ?_) AllReadyIn.nil
     refine stepIn_append_lies rfl (.tmp 13) (.tmp 24) 117 rfl w.heap.size 175 i0 (.agg #[.int .i64 0, .bool false]) 2 16 Tryz.underlying117 hi hz0 hz1 hz2 rfl (by decide) v pre.length (cnC (pre.map fun k => (pairW T k.1, false))) rfl ((hrow.alloc _).drew) ⟨W.heap.size, 0, none⟩ 1 1 (cnC [(zz, false)]) rfl rfl (two_cells4 W zz false) (cnC_one _) (by omega) (by unfold maxLen; omega) (by omega) (by have := hB.size; simp; omega) _ rfl ?_
     intro g5 c5 w5 hown5 hg5 _ _
     obtain ⟨hv1, hv2, hr2, hk2, hb2⟩ := Boxed.appended (W := W.drew) hv (by decide) hrow hB.size (Nat.le_refl _) hown5 hg5
     have hc1 := hv1.cell
     have hf1 := hv1.frozen
     refine hK _ _ ?_; clear hK K
     refine wpAnyIn_ready (rs := [13]) (by kernel_rfl) (by simp) ?_
     refine AllReadyIn.cons rfl (fun K hK => ?_) AllReadyIn.nil
     go_simp
     refine hK _ _ ?_; clear hK K
     refine wpAnyIn_done (by kernel_rfl) ?_ _
     exact ⟨((KeepsOthers.drew W).trans hk2).from _, ⟨(below_drewN (Below.refl _ W) 1).trans hb2, (boxKeep bS (by decide) hrow hg5 (by omega)).cell.trans bS.cell.symm, (boxKeep bN (by decide) hrow hg5 (by omega)).cell.trans bN.cell.symm⟩, ⟨_, hv2, own_snocC (M := N) (x := ⟨k, hkN⟩) (fun k => pairW T k.1) (by rw [HZZ.out] at hr2; exact hr2), by simp⟩, ⟨boxKeep bS (by decide) hrow hg5 (by omega), boxKeep bN (by decide) hrow hg5 (by omega)⟩, (below_drewN hB 1).trans hb2⟩
  ·go_simp
   refine hK _ _ ?_; clear hK K
   refine wpAnyIn_ready (rs := [0, 4]) (by kernel_rfl) (by simp) ?_
   refine AllReadyIn.cons rfl (fun K hK => ?_) (AllReadyIn.cons rfl (fun K hK => ?_) AllReadyIn.nil)
   ·go_simp
    refine hK _ _ ?_; clear hK K
    refine wpAnyIn_ready (rs := [4]) (by kernel_rfl) (by simp) ?_
    refine AllReadyIn.cons rfl (fun K hK => ?_) AllReadyIn.nil
    go_simp
    refine hK _ _ ?_; clear hK K
    refine wpAnyIn_take (i := 9) (v := .int .i64 ((zz : Nat) : Int)) rfl rfl (by kernel_rfl) (by kernel_rfl) (by kernel_rfl) (fun _ _ _ h => h) ⟨Or.inl ⟨by rfl, by intro w; go_simp⟩, fun _ => rfl⟩ ?_
    refine wpAnyIn_take (i := 10) (v := .agg #[.int .i64 ((zz : Nat) : Int), .bool false]) rfl rfl (by kernel_rfl) (by kernel_rfl) (by kernel_rfl) (fun _ _ _ h => h) ⟨Or.inl ⟨by rfl, by intro w; go_simp⟩, fun _ => rfl⟩ ?_
    refine wpAnyIn_ready (rs := [11]) (by kernel_rfl) (by simp) ?_
    refine AllReadyIn.cons rfl (fun K hK => ?_) AllReadyIn.nil
    go_simp
    refine hK _ _ ?_; clear hK K
    refine wpAnyIn_ready (rs := [12]) (by kernel_rfl) (by simp) ?_
    refine AllReadyIn.cons rfl (fun K hK => ?_) AllReadyIn.nil
    refine stepIn_append_lies rfl (.tmp 13) (.tmp 24) 117 rfl w.heap.size 175 i0 (.agg #[.int .i64 0, .bool false]) 2 16 Tryz.underlying117 hi hz0 hz1 hz2 rfl (by decide) v pre.length (cnC (pre.map fun k => (pairW T k.1, false))) rfl ((hrow.alloc _).drew) ⟨W.heap.size, 0, none⟩ 1 1 (cnC [(zz, false)]) rfl rfl (two_cells4 W zz false) (cnC_one _) (by omega) (by unfold maxLen; omega) (by omega) (by have := hB.size; simp; omega) _ rfl ?_
    intro g5 c5 w5 hown5 hg5 _ _
    obtain ⟨hv1, hv2, hr2, hk2, hb2⟩ := Boxed.appended (W := W.drew) hv (by decide) hrow hB.size (Nat.le_refl _) hown5 hg5
    have hc1 := hv1.cell
    have hf1 := hv1.frozen
    refine hK _ _ ?_; clear hK K
    refine wpAnyIn_ready (rs := [13]) (by kernel_rfl) (by simp) ?_
    refine AllReadyIn.cons rfl (fun K hK => ?_) AllReadyIn.nil
    go_simp
    refine hK _ _ ?_; clear hK K
    refine wpAnyIn_done (by kernel_rfl) ?_ _
    exact ⟨((KeepsOthers.drew W).trans hk2).from _, ⟨(below_drewN (Below.refl _ W) 1).trans hb2, (boxKeep bS (by decide) hrow hg5 (by omega)).cell.trans bS.cell.symm, (boxKeep bN (by decide) hrow hg5 (by omega)).cell.trans bN.cell.symm⟩, ⟨_, hv2, own_snocC (M := N) (x := ⟨k, hkN⟩) (fun k => pairW T k.1) (by rw [HZZ.out] at hr2; exact hr2), by simp⟩, ⟨boxKeep bS (by decide) hrow hg5 (by omega), boxKeep bN (by decide) hrow hg5 (by omega)⟩, (below_drewN hB 1).trans hb2⟩
   ·go_simp
    refine hK _ _ ?_; clear hK K
    refine wpAnyIn_take (i := 9) (v := .int .i64 ((zz : Nat) : Int)) rfl rfl (by kernel_rfl) (by kernel_rfl) (by kernel_rfl) (fun _ _ _ h => h) ⟨Or.inl ⟨by rfl, by intro w; go_simp⟩, fun _ => rfl⟩ ?_
    refine wpAnyIn_take (i := 10) (v := .agg #[.int .i64 ((zz : Nat) : Int), .bool false]) rfl rfl (by kernel_rfl) (by kernel_rfl) (by kernel_rfl) (fun _ _ _ h => h) ⟨Or.inl ⟨by rfl, by intro w; go_simp⟩, fun _ => rfl⟩ ?_
    refine wpAnyIn_ready (rs := [0, 11]) (by kernel_rfl) (by simp) ?_
    refine AllReadyIn.cons rfl (fun K hK => ?_) (AllReadyIn.cons rfl (fun K hK => ?_) AllReadyIn.nil)
    ·go_simp
     refine hK _ _ ?_; clear hK K
     refine wpAnyIn_ready (rs := [11]) (by kernel_rfl) (by simp) ?_
     refine AllReadyIn.cons rfl (fun K hK => ?_) AllReadyIn.nil
     go_simp
     refine hK _ _ ?_; clear hK K
     refine wpAnyIn_ready (rs := [12]) (by kernel_rfl) (by simp) ?_
     refine AllReadyIn.cons rfl (fun K hK => ?_) AllReadyIn.nil
     refine stepIn_append_lies rfl (.tmp 13) (.tmp 24) 117 rfl w.heap.size 175 i0 (.agg #[.int .i64 0, .bool false]) 2 16 Tryz.underlying117 hi hz0 hz1 hz2 rfl (by decide) v pre.length (cnC (pre.map fun k => (pairW T k.1, false))) rfl ((hrow.alloc _).drew) ⟨W.heap.size, 0, none⟩ 1 1 (cnC [(zz, false)]) rfl rfl (two_cells4 W zz false) (cnC_one _) (by omega) (by unfold maxLen; omega) (by omega) (by have := hB.size; simp; omega) _ rfl ?_
     intro g5 c5 w5 hown5 hg5 _ _
     obtain ⟨hv1, hv2, hr2, hk2, hb2⟩ := Boxed.appended (W := W.drew) hv (by decide) hrow hB.size (Nat.le_refl _) hown5 hg5
     have hc1 := hv1.cell
     have hf1 := hv1.frozen
     refine hK _ _ ?_; clear hK K
     refine wpAnyIn_ready (rs := [13]) (by kernel_rfl) (by simp) ?_
     refine AllReadyIn.cons rfl (fun K hK => ?_) AllReadyIn.nil
     go_simp
     refine hK _ _ ?_; clear hK K
     refine wpAnyIn_done (by kernel_rfl) ?_ _
     exact ⟨((KeepsOthers.drew W).trans hk2).from _, ⟨(below_drewN (Below.refl _ W) 1).trans hb2, (boxKeep bS (by decide) hrow hg5 (by omega)).cell.trans bS.cell.symm, (boxKeep bN (by decide) hrow hg5 (by omega)).cell.trans bN.cell.symm⟩, ⟨_, hv2, own_snocC (M := N) (x := ⟨k, hkN⟩) (fun k => pairW T k.1) (by rw [HZZ.out] at hr2; exact hr2), by simp⟩, ⟨boxKeep bS (by decide) hrow hg5 (by omega), boxKeep bN (by decide) hrow hg5 (by omega)⟩, (below_drewN hB 1).trans hb2⟩
    ·go_simp
     refine hK _ _ ?_; clear hK K
     refine wpAnyIn_ready (rs := [0]) (by kernel_rfl) (by simp) ?_
     refine AllReadyIn.cons rfl (fun K hK => ?_) AllReadyIn.nil
     go_simp
     refine hK _ _ ?_; clear hK K
     refine wpAnyIn_ready (rs := [12]) (by kernel_rfl) (by simp) ?_
     refine AllReadyIn.cons rfl (fun K hK => ?_) AllReadyIn.nil
     refine stepIn_append_lies rfl (.tmp 13) (.tmp 24) 117 rfl w.heap.size 175 i0 (.agg #[.int .i64 0, .bool false]) 2 16 Tryz.underlying117 hi hz0 hz1 hz2 rfl (by decide) v pre.length (cnC (pre.map fun k => (pairW T k.1, false))) rfl ((hrow.alloc _).drew) ⟨W.heap.size, 0, none⟩ 1 1 (cnC [(zz, false)]) rfl rfl (two_cells4 W zz false) (cnC_one _) (by omega) (by unfold maxLen; omega) (by omega) (by have := hB.size; simp; omega) _ rfl ?_
     intro g5 c5 w5 hown5 hg5 _ _
     obtain ⟨hv1, hv2, hr2, hk2, hb2⟩ := Boxed.appended (W := W.drew) hv (by decide) hrow hB.size (Nat.le_refl _) hown5 hg5
     have hc1 := hv1.cell
     have hf1 := hv1.frozen
     refine hK _ _ ?_; clear hK K
     refine wpAnyIn_ready (rs := [13]) (by kernel_rfl) (by simp) ?_
     refine AllReadyIn.cons rfl (fun K hK => ?_) AllReadyIn.nil
     go_simp
     refine hK _ _ ?_; clear hK K
     refine wpAnyIn_done (by kernel_rfl) ?_ _
     exact ⟨((KeepsOthers.drew W).trans hk2).from _, ⟨(below_drewN (Below.refl _ W) 1).trans hb2, (boxKeep bS (by decide) hrow hg5 (by omega)).cell.trans bS.cell.symm, (boxKeep bN (by decide) hrow hg5 (by omega)).cell.trans bN.cell.symm⟩, ⟨_, hv2, own_snocC (M := N) (x := ⟨k, hkN⟩) (fun k => pairW T k.1) (by rw [HZZ.out] at hr2; exact hr2), by simp⟩, ⟨boxKeep bS (by decide) hrow hg5 (by omega), boxKeep bN (by decide) hrow hg5 (by omega)⟩, (below_drewN hB 1).trans hb2⟩
  -- END REGION
 case done =>
  rintro D ys W hD rfl ⟨⟨v, hv, hrow, hnil⟩, ⟨bS, bN⟩, hB⟩ hK
  have hc := hv.cell
  gi_wp2
  refine ⟨by simp, .inl ⟨_, _, rfl, run_takeDeferred hK, ?_⟩⟩
  rw [List.length_finRange] at hrow
  have hT2 : cnC ((List.finRange N).map fun k => (pairW T k.1, false)) = cnC (pks (pairsC T)) := by
   rw [pairs_range, HTT.out, ← HN.out]
   unfold pks
   rw [List.map_map]
   congr 1
   refine List.ext_getElem (by simp) fun i h1 h2 => ?_
   simp
  rw [hT2, HN.out] at hrow
  exact ⟨_, results_tmp rfl _ _ _, v, rfl, ownsRow_putObj hrow _ hK rfl, hB.trans (belowK_b (w := w) (Nat.le_refl _) W D _ _ (by omega) hK rfl rfl)⟩
 case stop =>
  rintro D c pre W _ _ h _
  exact h.elim
end
section
open Go.RowKit
set_option maxRecDepth 100000
set_option linter.unusedVariables false
theorem pairs_le : ∀ {T : List (Nat × Bool)} {v : Nat}, (∀ c ∈ T, c.1 ≤ v) → ∀ x ∈ pairsC T, x ≤ v + v
 | [], _, _ => fun x hx => by cases hx
 | [_], _, _ => fun x hx => by cases hx
 | a :: b :: T, v, h => fun x hx => by
  have h1 := h a (by simp)
  have h2 := h b (by simp)
  rcases List.mem_cons.1 hx with rfl | hx
  ·omega
  ·exact pairs_le (fun c hc => h c (by simp [hc])) x hx
theorem tier_small {W : List Nat} {m : Nat} (hW : ∀ x ∈ W, x ≤ m) : ∀ t, ∀ c ∈ tierC W t, c.1 ≤ m * 2 ^ t := by
 intro t
 induction t with
 | zero =>
  intro c hc
  obtain ⟨x, hx, rfl⟩ := List.mem_map.1 hc
  simpa using hW x hx
 | succ t ih =>
  intro c hc
  have h0 : 0 < 2 ^ t := Nat.pow_pos (by decide)
  have h1 : m * 2 ^ (t + 1) = m * 2 ^ t + m * 2 ^ t := by rw [Nat.pow_succ, ← Nat.mul_assoc]; omega
  rcases merge_mem _ _ c hc with h | h
  ·have h2 := hW _ h
   have h3 : m * 1 ≤ m * 2 ^ t := Nat.mul_le_mul_left m h0
   omega
  ·have h2 := pairs_le ih _ h
   omega
theorem cw_mem {T : List (Nat × Bool)} {k : Nat} (h : k < T.length) : ∃ c ∈ T, cw T k = c.1 := ⟨T[k], List.getElem_mem h, by unfold cw; simp [List.getD_eq_getElem?_getD, h]⟩
theorem tier_len_le (W : List Nat) : ∀ t, (tierC W t).length ≤ 2 * W.length := by
 intro t
 induction t with
 | zero => show (W.map _).length ≤ _; rw [List.length_map]; omega
 | succ t ih => rw [tier_length]; omega
theorem pks_len (T : List (Nat × Bool)) : (pairsC T).length = T.length / 2 := pairsC_length T
theorem packs_c (b off n₀ cap : Nat) (T : List (Nat × Bool)) (w : World) (h : CRow w (some ⟨b, off, none⟩) n₀ (cw T) (cq T)) (hT : T.length = n₀) (hlt : b < w.heap.size) (hcap : n₀ ≤ cap) (hn : n₀ ≤ 2000) (hw : ∀ k, k < n₀ → cw T k < 1152921504606846976) :
  Calls Tryz.prog 159 #[.slice (some ⟨b, off, none⟩) n₀ cap] w fun e W' => ∃ A c, e = .returned (.slice A (n₀ / 2) c) ∧ CRow W' A (n₀ / 2) (wt (pairsC T)) (fun _ => false) ∧ Below w.heap.size w W' := by
 refine (callsIn_wide.1 (packs_in b off n₀ cap T w h hT hlt hcap hn hw)).mono ?_
 rintro e W' ⟨v, rfl, ho, hb⟩
 have hl : n₀ / 2 ≤ (pairsC T).length := by rw [pks_len, hT]; exact Nat.le_refl _
 rcases ho.2 with ⟨hv, h0⟩ | ⟨g, c, cur, hv, _⟩
 ·subst hv
  rw [h0]
  exact ⟨none, 0, rfl, CRow.nil_ _ _ _ _, hb⟩
 ·subst hv
  exact ⟨_, c, rfl, CRow.pks (CRow.ofOwn ho) hl, hb⟩
theorem info_coins : (Tryz.prog.info? 117).map (fun i => (i.zero, i.size, i.bytes)) = some (some (.slice none 0 0), 1, 24) := by kernel_rfl
theorem CRow.kept {w w' : World} {b off n : Nat} {f : Nat → Nat} {q : Nat → Bool} {row : Option Nat} (h : CRow w (some ⟨b, off, none⟩) n f q) (hg : w.grownBy w' row) (hne : row ≠ some b) : CRow w' (some ⟨b, off, none⟩) n f q := ⟨fun hn => by
 obtain ⟨b', off', e, hl, hc⟩ := h.cells hn
 injection e with e
 injection e with e e'
 subst e e'
 have hs := hg.size
 exact ⟨b, off, rfl, by omega, fun k hk => ⟨(hg.cell_far ⟨b, off + k * 2, none⟩ hl (fun e => hne e.symm)).trans (hc k hk).1, (hg.cell_far ⟨b, off + k * 2 + 1, none⟩ hl (fun e => hne e.symm)).trans (hc k hk).2⟩⟩⟩
structure Tiers (w : World) (g t : Nat) (W : List Nat) (G O C : Nat → Nat) : Prop where
 row : ∀ r, r < t → G r < w.heap.size ∧ G r ≠ g ∧ (tierC W r).length ≤ C r ∧ CRow w (some ⟨G r, O r, none⟩) (tierC W r).length (cw (tierC W r)) (cq (tierC W r))
def topT (W : List Nat) (G O C : Nat → Nat) (t : Nat) : List Value := (List.range t).map fun r => .slice (some ⟨G r, O r, none⟩) (tierC W r).length (C r)
theorem topT_succ (W : List Nat) (G O C : Nat → Nat) (t : Nat) : topT W G O C (t + 1) = topT W G O C t ++ [.slice (some ⟨G t, O t, none⟩) (tierC W t).length (C t)] := by simp [topT, List.range_succ]
theorem topT_at (W : List Nat) (G O C : Nat → Nat) {t r : Nat} (h : r < t) : (topT W G O C t)[r]? = some (.slice (some ⟨G r, O r, none⟩) (tierC W r).length (C r)) := by simp [topT, h]
theorem topT_congr {W : List Nat} {G O C G' O' C' : Nat → Nat} {t : Nat} (h : ∀ r, r < t → G r = G' r ∧ O r = O' r ∧ C r = C' r) : topT W G O C t = topT W G' O' C' t := by
 unfold topT
 refine List.map_congr_left fun r hr => ?_
 obtain ⟨h1, h2, h3⟩ := h r (List.mem_range.1 hr)
 rw [h1, h2, h3]
def upd (f : Nat → Nat) (t v : Nat) : Nat → Nat := fun r => if r = t then v else f r
theorem upd_lt {f : Nat → Nat} {t v r : Nat} (h : r < t) : upd f t v r = f r := if_neg (by omega)
theorem upd_at (f : Nat → Nat) (t v : Nat) : upd f t v t = v := if_pos rfl
theorem one_cellV (w : World) (v : Value) (t : TypeId) : ∀ j u, [v][j]? = some u → (w.alloc (.cells #[v] t)).cell? ((⟨w.heap.size, 0, none⟩ : Addr).add j) = some u := by
 have h := World.news_of_block (cs := #[v]) (t := t) (fr := (0, 0)) (heap_alloc_new w (.cells #[v] t))
 exact h
theorem own_blkE {g c t b : Nat} (h : (Value.slice (some ⟨g, 0, none⟩) t c).ownBlock = some b) : g = b := by simpa [Value.ownBlock] using h
set_option maxHeartbeats 4000000 in
theorem tiers_c (b off n L : Nat) (W : List Nat) (w : World) (h : CRow w (some ⟨b, off, none⟩) n (cw (lvs W)) (cq (lvs W))) (hb : b < w.heap.size) (hWn : n = W.length) (hn : n ≤ 400) (hL : 1 ≤ L) (hL2 : L ≤ 15) (hW : ∀ x ∈ W, x ≤ 1073741824) :
  Calls Tryz.prog 122 #[.slice (some ⟨b, off, none⟩) n n, .int .i64 L] w fun e w' => ∃ g c, e = .returned (.slice (some ⟨g, 0, none⟩) L c) ∧ ∃ G O C, w'.ownsRow w.heap.size 117 1 (.slice (some ⟨g, 0, none⟩) L c) L (topT W G O C L) ∧ Tiers w' g L W G O C ∧ Below w.heap.size w w' := by
 obtain ⟨i0, hi, hz0, hz1, hz2⟩ := info_parts info_coins
 have hlv := CRow.lvs h (by omega)
 have HW := Lib.hid hW
 have HWN := Lib.hid hWn
 clear hW hWn
 go_enter Tryz.func122, Tryz.ntmps122
 go_wp2
 go_loopw [5] (fun va wr => ∃ (t g c : Nat) (G O C : Nat → Nat), 1 ≤ t ∧ t ≤ L ∧ va = .slice (some ⟨g, 0, none⟩) t c ∧ g < wr.heap.size ∧ wr.ownsRow w.heap.size 117 1 (.slice (some ⟨g, 0, none⟩) t c) t (topT W G O C t) ∧ Tiers wr g t W G O C ∧ Below w.heap.size w wr)
  (fun va _ => match va with | .slice _ t _ => L - t | _ => 0)
 case atStart =>
  refine ⟨1, w.heap.size, 1, fun _ => b, fun _ => off, fun _ => n, Nat.le_refl _, hL, rfl, by simp, ?_, ⟨fun r hr => ?_⟩, (Below.refl _ _).alloc (Nat.le_refl _) _⟩
  ·refine ⟨rfl, .inr ⟨w.heap.size, 1, _, rfl, Nat.le_refl _, heap_alloc_new w _, Nat.le_refl _, by unfold maxLen; omega, rfl, ?_⟩⟩
   have e : (tierC W 0).length = n := by show (W.map _).length = _; rw [List.length_map, HWN.out]
   unfold topT
   simp [e]
  ·obtain rfl : r = 0 := by omega
   have e : (tierC W 0).length = n := by show (W.map _).length = _; rw [List.length_map, HWN.out]
   rw [e]
   exact ⟨by simp; omega, by omega, Nat.le_refl _, h.below ((Below.refl _ _).alloc (Nat.le_refl _) _)⟩
 case round =>
  obtain ⟨t, g, c, G, O, C, ht, htL, rfl, hgw, hown, hT, hbel⟩ := hrel
  by_cases hlt : t < L
  ·have hti : (t : Int) < L := by omega
   obtain ⟨s, hs⟩ : ∃ s, t = s + 1 := ⟨t - 1, by omega⟩
   have hsi : (t : Int) - 1 = (s : Int) := by omega
   have hst : s < t := by omega
   have hsti : (s : Int) < (t : Int) := by omega
   have hcell := (hown.cellAt s (by omega)).trans (topT_at W G O C hst)
   obtain ⟨hG1, hG2, hG3, hG4⟩ := hT.row s hst
   have hlen := tier_len_le W s
   have hbnd : ∀ k, k < (tierC W s).length → cw (tierC W s) k < 1152921504606846976 := fun k hk => by
    obtain ⟨x, hx, e⟩ := cw_mem hk
    rw [e]
    have h1 := tier_small HW.out s x hx
    have h2 : 2 ^ s ≤ 2 ^ 15 := Nat.pow_le_pow_right (by decide) (by omega)
    have h3 : (2 : Nat) ^ 15 = 32768 := rfl
    have h4 : 1073741824 * 2 ^ s ≤ 1073741824 * 32768 := Nat.mul_le_mul_left _ (by omega)
    omega
   have hW400 : W.length ≤ 400 := by have := HWN.out; omega
   obtain ⟨q, hq⟩ : ∃ q, q = (tierC W s).length := ⟨_, rfl⟩
   rw [← hq] at hcell hG3 hG4 hlen hbnd
   have HP := Lib.hid (packs_c (G s) (O s) q (C s) (tierC W s) wr hG4 hq.symm hG1 hG3 (by omega) hbnd)
   have HQ := Lib.hid hq
   have HS := Lib.hid hs
   clear hG3 hG4 hbnd hq hs
   obtain ⟨gs, hgs⟩ : ∃ x, x = G s := ⟨_, rfl⟩
   obtain ⟨os, hos⟩ : ∃ x, x = O s := ⟨_, rfl⟩
   obtain ⟨cs, hcs⟩ : ∃ x, x = C s := ⟨_, rfl⟩
   rw [← hgs, ← hos, ← hcs] at hcell HP
   clear hgs hos hcs
   go_wp2_with fail
   refine HP.out.mono ?_
   rintro e w2 ⟨PA, pc, rfl, hpk, hb2⟩
   have hbel2 := hbel.trans (hb2.mono hbel.size)
   have hown2 := own_below hown hb2
   have hmer : Hid (mergeC W (pairsC (tierC W s)) = tierC W t) := by unfold Hid; rw [HS.out]; rfl
   have hplen : q / 2 = (pairsC (tierC W s)).length := by rw [pks_len, HQ.out]
   have HM := Lib.hid (merged_c b off n W PA (q / 2) pc (pairsC (tierC W s)) w2 (hlv.below hbel2) (by have := hbel2.size; omega) hpk HWN.out hplen hn (by omega))
   have hq2 : Hid (n + q / 2 = (tierC W t).length) := by
    unfold Hid
    rw [← hmer.out, mergeC_length, ← hplen, HWN.out]
   clear hplen hpk
   generalize q / 2 = q2 at *
   go_wp2_with fail
   refine HM.out.mono ?_
   rintro e w3 ⟨g3, c3, rfl, hown3, hb3⟩
   rw [hq2.out, hmer.out] at hown3
   rw [hq2.out]
   have hbel3 := hbel2.trans (hb3.mono hbel2.size)
   have hown4 := own_below hown2 hb3
   have hs3 := hbel3.size
   have hg3 := hown3.lt g3 rfl
   have hw23 : wr.heap.size ≤ w2.heap.size := hb2.size
   have hw33 : w2.heap.size ≤ w3.heap.size := hb3.size
   obtain ⟨tl, htl⟩ : ∃ tl, tl = (tierC W t).length := ⟨_, rfl⟩
   have htl2 := tier_len_le W t
   rw [← htl] at hown3 htl2 ⊢
   have HTL := Lib.hid htl
   clear htl
   go_wp2_with (at_builtin; refine wpList_append_lies _ rfl _ _ 171 rfl w.heap.size 117 i0 (.slice none 0 0) 1 24 Tryz.underlying171 hi hz0 hz1 hz2 rfl (by decide) (.slice (some ⟨g, 0, none⟩) t c) t (topT W G O C t) rfl (hown4.alloc _) ⟨w3.heap.size, 0, none⟩ 1 1 [.slice (some ⟨g3, 0, none⟩) tl c3] rfl rfl (one_cellV w3 _ _) (by intro u hu; simp at hu; subst hu; rfl) (by omega) (by unfold maxLen; omega) (by omega) (by simp; omega) _ rfl ?_; intro gg cap w5 hown5 hgrow hat hlt5)
   go_wp2
   go_roundw
   case rel =>
    have hgg : gg = g ∨ gg = w3.heap.size + 1 := by
     rcases hat with h | h
     ·left
      have : g = gg := by simpa [Value.ownBlock] using h
      omega
     ·right
      rw [h]
      simp
    have hcap3 : tl ≤ c3 := by
     rcases hown3.2 with ⟨hv, _⟩ | ⟨g', cap', cur, hv, _, _, h1, _⟩
     ·cases hv
     ·injection hv with _ _ hv
      omega
    have hcr := CRow.ofOwn hown3
    refine ⟨t + 1, gg, cap, upd G t g3, upd O t 0, upd C t c3, by omega, by omega, by go_num, hlt5, ?_, ⟨fun r hr => ?_⟩, (hbel3.alloc hs3 _).grown hgrow (by simp; omega) (fun k hk => by cases hk; exact (hown.lt _ rfl).1)⟩
    ·rw [topT_succ, upd_at, upd_at, upd_at, topT_congr (G' := G) (O' := O) (C' := C) (fun r hr => ⟨upd_lt hr, upd_lt hr, upd_lt hr⟩), ← HTL.out]
     exact hown5
    ·have hgs := hgrow.size
     simp at hgs
     rcases (show r < t ∨ r = t by omega) with h1 | rfl
     ·obtain ⟨a1, a2, a3, a4⟩ := hT.row r h1
      rw [upd_lt h1, upd_lt h1, upd_lt h1]
      refine ⟨by omega, by omega, a3, ?_⟩
      exact CRow.kept (CRow.below (CRow.below (CRow.below a4 hb2) hb3) ((Below.refl _ _).alloc (Nat.le_refl _) _)) hgrow (fun e => a2 (own_blkE e).symm)
     ·rw [upd_at, upd_at, upd_at, ← HTL.out]
      refine ⟨by omega, by omega, hcap3, ?_⟩
      exact CRow.kept (CRow.below hcr ((Below.refl _ _).alloc (Nat.le_refl _) _)) hgrow (fun e => by have h5 := (hown.lt g rfl).2; have h6 := own_blkE e; have h7 := hg3.1; omega)
   case measure => show L - (t + 1) < L - t; omega
  ·obtain rfl : t = L := by omega
   have hti : ¬ (t : Int) < t := by omega
   go_wp2
   go_ret
   exact ⟨g, c, rfl, G, O, C, hown, hT, hbel⟩
end
end Go.Proofs.YtldgdofefcehnaaGreatDoor
