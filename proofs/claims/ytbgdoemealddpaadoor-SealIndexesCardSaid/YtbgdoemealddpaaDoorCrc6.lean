/-
  THE CONTRACT OF crc.Blocks, second part: the loop. Rows of at most 2^20 bytes.
-/
import Derived.Test.YtbgdoemealddpaaDoorCrc5
import Derived.Test.YtbgdoemealddpaaDoorBase
import Derived.Deep.AppendLies
import Derived.RangeFuncWrites
import Derived.RangeFuncCalls
import Derived.RangeFuncNested
namespace Go.Proofs.YtbgdoemealddpaaDoor
open Go.RowKit Go.Shelf
set_option maxRecDepth 100000
set_option linter.unusedVariables false
attribute [local go_sem] Oper.semAt_some

theorem Tab.keep {w w' : World} (h : Tab w) (hb : Below w.heap.size w w') : Tab w' := h.below hb rfl

theorem one_cell4 (w : World) (v : Value) (t : TypeId) : ∀ j u, [v][j]? = some u → ((w.alloc (.cells #[v] t)).drew).cell? ((⟨w.heap.size, 0, none⟩ : Addr).add j) = some u := by
  intro j u hu
  have hj : j = 0 := by
    have := (List.getElem?_eq_some_iff.1 hu).1
    simpa using this
  subst hj
  simp at hu
  subst hu
  exact (Boxed.new w t v).cell
theorem stepIn_append_lies {F : Fence} {m : Nat} {P : Program} {w : World} {ops : Array Oper} {o : Oper} {a : Act} {K : Act → World → Prop} {Q : Exit → Act → World → Prop} {E : Prop} (hgd : o.guard = none) (s x : Operand) (t : TypeId)
    (ho : o.op = .call { callee := .builtin .append, args := #[s, x], argTypes := #[t, t] })
    (base : Nat) (e : TypeId) (i : TypeInfo) (z : Value) (size bytes : Nat) (ht : P.underlying t = some (.slice e)) (hi : P.info? e = some i) (hz : i.zero = some z)
    (hsize : i.size = size) (hby : i.bytes = bytes) (hzs : z.cells.size = size) (hsz : 0 < size)
    (v : Value) (n : Nat) (xs : List Value) (hs : a.eval s = v) (hown : w.ownsRow base e size v n xs)
    (ad : Addr) (k c : Nat) (news : List Value) (hx : a.eval x = .slice (some ad) k c) (hl : news.length = k * size) (hnews : ∀ j u, news[j]? = some u → w.cell? (ad.add j) = some u) (h1 : ∀ u ∈ news, u.oneCell' = true)
    (hk : 0 < k) (h63 : n + k ≤ maxLen) (hbytes : (n + k) * bytes ≤ 140737488355328) (hbase : base ≤ w.heap.size) (H : Nat) (hH : w.heap.size = H)
    (h : ∀ g cap w', w'.ownsRow base e size (.slice (some ⟨g, 0, none⟩) (n + k) cap) (n + k) (xs ++ news) → w.grownBy w' v.ownBlock → (v.ownBlock = some g ∨ g = H) → g < w'.heap.size → K (a.put o.dst (.slice (some ⟨g, 0, none⟩) (n + k) cap)) w') :
    if Region.wanted o (yielded ops a.tmps) = true then Oper.wpIn F m P o a w K Q else E := by
  have hw : Region.wanted o (yielded ops a.tmps) = true := by simp [Region.wanted, hgd]
  rw [if_pos hw]
  obtain ⟨g, cap, w', hrun, r1, r2, r3, r4⟩ := run_append_lies (P := P) (w := w) t o.type base e i z size bytes ht hi hz hsize hby hzs hsz v n xs hown ad k c news hl hnews h1 hk h63 hbytes hbase H hH
  unfold Oper.wpIn
  refine ⟨?_, ?_⟩
  · simp [Oper.about, ho, resolve, Target.leads, Sem.run_pure]
  · rw [Oper.semAt_plain F _ _ (by rw [ho]; intro c hc'; cases hc')]
    simp [execOp, ho, resolve, invoke, builtin, hs, hx, hrun, Result.andThen]
    exact h g cap w' r1 r2 r3 r4
theorem boxKeep {W w5 : World} {B B' n₀ k : Nat} {t e : TypeId} {u v x : Value} {xs : List Value} {o : Obj} (h : Boxed W B t u) (hte : t ≠ e) (hrow : W.ownsRow n₀ e 1 v k xs) (hg : (W.alloc o).drew.grownBy w5 v.ownBlock) (hne : B ≠ B') : Boxed (w5.setCell ⟨B', 0, none⟩ x) B t u :=
  Boxed.other (Boxed.kept (W := (W.alloc o).drew) (h.alloc o) hg (h.not_row hte hrow)) hne x
set_option maxHeartbeats 4000000 in
theorem Blocks_in (b off n cap s : Nat) (l : List F) (w : World) (ht : Tab w) (h : RowIn w (some ⟨b, off, none⟩) n cap l) (hlt : b < w.heap.size) (hn : n ≤ 1048576) (hs : 0 < s) (hs2 : s ≤ 9223372036854775807) :
    CallsIn Fence.wide 6 Tryd.prog 35 #[.slice (some ⟨b, off, none⟩) n cap, .int .i64 s] w fun e W' => ∃ v, e = .returned v ∧ W'.ownsRow w.heap.size 54 1 v (blkCount n s) (gs (sums l s (blkCount n s))) ∧ Below w.heap.size w W' := by
  obtain ⟨i0, hi, hz0, hz1, hz2⟩ := info_parts info_u32
  refine callsIn_of_wp_marks Tryd.func35 rfl trivial ?_ rfl
  simp only [Tryd.ntmps35, List.size_toArray, List.length_cons, List.length_nil, Nat.reduceAdd, Nat.reduceSub, Array.replicate_succ, Array.replicate_zero, List.push_toArray, List.append_toArray, List.nil_append, List.cons_append]
  have hs1 : ¬ (s : Int) < 1 := by omega
  gi_wp2_with (refine ⟨trivial, ?_⟩; gi_at_call 51; refine (chunk_in Fence.wide _ trivial rfl _ n cap s hs hs2 _).mono ?_; rintro e w' ⟨rfl, rfl⟩)
  have bO := Boxed.new w 56 (.slice none 0 0)
  obtain ⟨W0, hW0⟩ : ∃ W0, ((w.alloc (.cells #[.slice none 0 0] 56)).alloc (.cells #[.slice (some ⟨b, off, none⟩) n cap] 27)).alloc (.cells #[.int .i64 s] 3) = W0 := ⟨_, rfl⟩
  rw [hW0]
  have hB0 : Below w.heap.size w W0 := by rw [← hW0]; exact (((Below.refl _ w).alloc (Nat.le_refl _) _).alloc (by simp) _).alloc (by simp; omega) _
  have hsz : W0.heap.size = w.heap.size + 3 := by rw [← hW0]; simp
  have c1 : W0.cell? ⟨w.heap.size + 1, 0, none⟩ = some (.slice (some ⟨b, off, none⟩) n cap) := by
    rw [← hW0, World.cell?_alloc_lt _ _ _ (by simp)]
    have h := (Boxed.new (w.alloc (.cells #[.slice none 0 0] 56)) 27 (.slice (some ⟨b, off, none⟩) n cap)).cell
    rw [World.size_alloc] at h
    exact h
  have c2 : W0.cell? ⟨w.heap.size + 1 + 1, 0, none⟩ = some (.int .i64 s) := by
    rw [← hW0]
    have h := (Boxed.new ((w.alloc (.cells #[.slice none 0 0] 56)).alloc (.cells #[.slice (some ⟨b, off, none⟩) n cap] 27)) 3 (.int .i64 s)).cell
    rw [World.size_alloc, World.size_alloc] at h
    exact h
  have bO2 : Boxed W0 w.heap.size 56 (.slice none 0 0) := by rw [← hW0]; exact (bO.alloc _).alloc _
  have bS0 : Boxed W0 (w.heap.size + 1) 27 (.slice (some ⟨b, off, none⟩) n cap) := by
    rw [← hW0]
    have h := (Boxed.new (w.alloc (.cells #[.slice none 0 0] 56)) 27 (.slice (some ⟨b, off, none⟩) n cap)).alloc (.cells #[.int .i64 s] 3)
    rw [World.size_alloc] at h
    exact h
  have bN0 : Boxed W0 (w.heap.size + 1 + 1) 3 (.int .i64 s) := by
    rw [← hW0]
    have h := Boxed.new ((w.alloc (.cells #[.slice none 0 0] 56)).alloc (.cells #[.slice (some ⟨b, off, none⟩) n cap] 27)) 3 (.int .i64 s)
    rw [World.size_alloc, World.size_alloc] at h
    exact h
  have own0 : W0.ownsRow w.heap.size 54 1 (.slice none 0 0) 0 [] := World.ownsRow_nil _ _ _ _
  have HSum : Hid (∀ k W, Below w.heap.size w W → Calls Tryd.prog 27 #[blkV b off n s k] W fun e w' => e = .returned (.int .u32 (sum32 (blk l s k)).n) ∧ W = w') := fun k W hb => by
    have hr : Row W (some ⟨b, off + k * s, none⟩) (blkLen n s k) (blk l s k) := by
      have hr0 := h.row.below hb
      by_cases e : k * s ≤ n
      · exact hr0.blk s k e
      · have e1 : blkLen n s k = 0 := by unfold blkLen; omega
        have e2 : blk l s k = [] := by
          unfold blk
          rw [List.drop_of_length_le (by rw [h.row.len]; omega), List.take_nil]
        rw [e1, e2]
        exact Row.nil _ _
    exact Sum_c _ _ _ _ W (ht.keep hb) hr
  have hcl := h.le
  clear bO hW0 own0 h ht
  refine wpIn_rangeFunc_ownG rfl (by omega) (gf := 57) (lb := #[.pointer (some ⟨w.heap.size + 1, 0, none⟩), .pointer (some ⟨w.heap.size + 1 + 1, 0, none⟩)]) rfl trivial (enters_of Tryd.func57 (by kernel_rfl) rfl)
    (chunk_stops Fence.wide (6 - 1) trivial rfl (by omega) (w.heap.size + 1) (w.heap.size + 1 + 1) w.heap.size b off n cap s hn hcl hs hs2 W0 (by omega) (by omega) c1 c2) Kc.trans (fun W l o o' h1 h2 h3 h4 => Kc.put (w := W0) (by omega) (by omega) (by omega) W l o o' h1 h2 h3 h4) (Below.refl _ _) (fun _ => rfl)
    (fun pre W => (∃ v, Boxed W w.heap.size 56 v ∧ W.ownsRow w.heap.size 54 1 v pre.length (gs (pre.map fun k => sum32 (blk l s k))) ∧ (v = .slice none 0 0 ↔ pre = [])) ∧ (Boxed W (w.heap.size + 1) 27 (.slice (some ⟨b, off, none⟩) n cap) ∧ Boxed W (w.heap.size + 1 + 1) 3 (.int .i64 s)) ∧ Below w.heap.size w W)
    (fun _ _ _ => False)
    (OwnFrom.and (Own.from (holdsRow_own w.heap.size w.heap.size 56 54 1 (fun pre : List Nat => pre.length) (fun pre => gs (pre.map fun k => sum32 (blk l s k))) (fun pre v => v = .slice none 0 0 ↔ pre = [])) _) (OwnFrom.and (OwnFrom.and (Own.from (boxed_own (w.heap.size + 1) 27 (fun _ => .slice (some ⟨b, off, none⟩) n cap)) _) (Own.from (boxed_own (w.heap.size + 1 + 1) 3 (fun _ => .int .i64 s)) _)) (ownFrom_below (Nat.le_refl _) (by omega))))
    (fun _ _ _ _ _ hs _ _ => hs)
    ⟨⟨_, bO2, World.ownsRow_nil _ _ _ _, by simp⟩, ⟨bS0, bN0⟩, hB0⟩
    (fun k => { tmps := #[.slice (some ⟨b, off, none⟩) n cap, .int .i64 s, undef, undef, .slice none 0 0, .pointer (some ⟨w.heap.size, 0, none⟩), blkV b off n s k, .int .i64 s, .bool false, .slice (some ⟨b, off, none⟩) n cap, .int .i64 s,
          .func (.func 57) #[] #[.pointer (some ⟨w.heap.size + 1, 0, none⟩), .pointer (some ⟨w.heap.size + 1 + 1, 0, none⟩)], blkV b off n s k, undef, undef, undef, undef, undef, undef], defers := [] }) ?assign ?body ?done ?stop
  case assign =>
    intro l x W K hK
    gi_wp2
    exact hK
  case body =>
    rintro ll pre x W ⟨⟨v, hv, hrow, hnil⟩, ⟨bS, bN⟩, hB⟩ hlt
    have hc := hv.cell
    have hcA := (hv.alloc (.cells #[.int .u32 (sum32 (blk l s x)).n] 54)).cell
    have hpn : pre.length < 1048576 := by
      have h1 : blkCount n s ≤ n := by
        unfold blkCount
        rw [Nat.div_le_iff_le_mul_add_pred hs]
        have : n ≤ s * n := Nat.le_mul_of_pos_left n hs
        omega
      omega
    gi_wp2
    refine wpIn_region_any (by kernel_rfl) ?_
    change wpAnyIn _ _ _ _ _ _ _ _ _ (World.drew W)
    refine wpAnyIn_ready (rs := [0, 1]) (by kernel_rfl) (by simp) ?_
    refine AllReadyIn.cons rfl (fun K hK => ?_) (AllReadyIn.cons rfl (fun K hK => ?_) AllReadyIn.nil)
    · go_simp
      refine hK _ _ ?_; clear hK K
      refine wpAnyIn_ready (rs := [1]) (by kernel_rfl) (by simp) ?_
      refine AllReadyIn.cons rfl (fun K hK => ?_) AllReadyIn.nil
      go_simp
      refine hK _ _ ?_; clear hK K
      refine wpAnyIn_ready (rs := [2]) (by kernel_rfl) (by simp) ?_
      refine AllReadyIn.cons rfl (fun K hK => ?_) AllReadyIn.nil
      go_simp
      gi_wp2_with ((refine ⟨trivial, ?_⟩; gi_at_call 27; refine (CallsIn.inRound ll (callsIn_wide.2 (HSum.out x _ (below_drewN hB 1)))).mono ?_; rintro e w' ⟨rfl, rfl⟩))
      change wpAnyIn _ _ _ _ _ _ _ _ _ (World.drew W)
      refine wpAnyIn_ready (rs := [3]) (by kernel_rfl) (by simp) ?_
      refine AllReadyIn.cons rfl (fun K hK => ?_) AllReadyIn.nil
      go_simp
      refine hK _ _ ?_; clear hK K
      refine wpAnyIn_ready (rs := [4]) (by kernel_rfl) (by simp) ?_
      refine AllReadyIn.cons rfl (fun K hK => ?_) AllReadyIn.nil
      refine stepIn_append_lies rfl (.tmp 13) (.tmp 16) 56 rfl w.heap.size 54 i0 (.int .u32 0) 1 4 Tryd.underlying56 hi hz0 hz1 hz2 rfl (by decide) v pre.length (gs (pre.map fun k => sum32 (blk l s k))) rfl ((hrow.alloc _).drew) ⟨W.heap.size, 0, none⟩ 1 1 [.int .u32 (sum32 (blk l s x)).n] rfl rfl (one_cell4 W _ _) (by intro u hu; simp at hu; subst hu; rfl) (by omega) (by unfold maxLen; omega) (by omega) (by have := hB.size; simp; omega) _ rfl ?_
      intro g5 c5 w5 hown5 hg5 _ _
      obtain ⟨hv1, hv2, hr2, hk2, hb2⟩ := Boxed.appended (W := W.drew) hv (by decide) hrow hB.size (Nat.le_refl _) hown5 hg5
      have hc1 := hv1.cell
      have hf1 := hv1.frozen
      refine hK _ _ ?_; clear hK K
      refine wpAnyIn_ready (rs := [5]) (by kernel_rfl) (by simp) ?_
      refine AllReadyIn.cons rfl (fun K hK => ?_) AllReadyIn.nil
      go_simp
      refine hK _ _ ?_; clear hK K
      refine wpAnyIn_done (by kernel_rfl) ?_ _
      exact ⟨((KeepsOthers.drew W).trans hk2).from _, ⟨(below_drewN (Below.refl _ W) 1).trans hb2, (boxKeep bS (by decide) hrow hg5 (by omega)).cell.trans bS.cell.symm, (boxKeep bN (by decide) hrow hg5 (by omega)).cell.trans bN.cell.symm⟩, ⟨_, hv2, own_snoc (fun k => sum32 (blk l s k)) hr2, by simp⟩, ⟨boxKeep bS (by decide) hrow hg5 (by omega), boxKeep bN (by decide) hrow hg5 (by omega)⟩, (below_drewN hB 1).trans hb2⟩
    · go_simp
      refine hK _ _ ?_; clear hK K
      refine wpAnyIn_ready (rs := [0, 2]) (by kernel_rfl) (by simp) ?_
      refine AllReadyIn.cons rfl (fun K hK => ?_) (AllReadyIn.cons rfl (fun K hK => ?_) AllReadyIn.nil)
      · go_simp
        refine hK _ _ ?_; clear hK K
        refine wpAnyIn_ready (rs := [2]) (by kernel_rfl) (by simp) ?_
        refine AllReadyIn.cons rfl (fun K hK => ?_) AllReadyIn.nil
        go_simp
        gi_wp2_with ((refine ⟨trivial, ?_⟩; gi_at_call 27; refine (CallsIn.inRound ll (callsIn_wide.2 (HSum.out x _ (below_drewN hB 1)))).mono ?_; rintro e w' ⟨rfl, rfl⟩))
        change wpAnyIn _ _ _ _ _ _ _ _ _ (World.drew W)
        refine wpAnyIn_ready (rs := [3]) (by kernel_rfl) (by simp) ?_
        refine AllReadyIn.cons rfl (fun K hK => ?_) AllReadyIn.nil
        go_simp
        refine hK _ _ ?_; clear hK K
        refine wpAnyIn_ready (rs := [4]) (by kernel_rfl) (by simp) ?_
        refine AllReadyIn.cons rfl (fun K hK => ?_) AllReadyIn.nil
        refine stepIn_append_lies rfl (.tmp 13) (.tmp 16) 56 rfl w.heap.size 54 i0 (.int .u32 0) 1 4 Tryd.underlying56 hi hz0 hz1 hz2 rfl (by decide) v pre.length (gs (pre.map fun k => sum32 (blk l s k))) rfl ((hrow.alloc _).drew) ⟨W.heap.size, 0, none⟩ 1 1 [.int .u32 (sum32 (blk l s x)).n] rfl rfl (one_cell4 W _ _) (by intro u hu; simp at hu; subst hu; rfl) (by omega) (by unfold maxLen; omega) (by omega) (by have := hB.size; simp; omega) _ rfl ?_
        intro g5 c5 w5 hown5 hg5 _ _
        obtain ⟨hv1, hv2, hr2, hk2, hb2⟩ := Boxed.appended (W := W.drew) hv (by decide) hrow hB.size (Nat.le_refl _) hown5 hg5
        have hc1 := hv1.cell
        have hf1 := hv1.frozen
        refine hK _ _ ?_; clear hK K
        refine wpAnyIn_ready (rs := [5]) (by kernel_rfl) (by simp) ?_
        refine AllReadyIn.cons rfl (fun K hK => ?_) AllReadyIn.nil
        go_simp
        refine hK _ _ ?_; clear hK K
        refine wpAnyIn_done (by kernel_rfl) ?_ _
        exact ⟨((KeepsOthers.drew W).trans hk2).from _, ⟨(below_drewN (Below.refl _ W) 1).trans hb2, (boxKeep bS (by decide) hrow hg5 (by omega)).cell.trans bS.cell.symm, (boxKeep bN (by decide) hrow hg5 (by omega)).cell.trans bN.cell.symm⟩, ⟨_, hv2, own_snoc (fun k => sum32 (blk l s k)) hr2, by simp⟩, ⟨boxKeep bS (by decide) hrow hg5 (by omega), boxKeep bN (by decide) hrow hg5 (by omega)⟩, (below_drewN hB 1).trans hb2⟩
      · go_simp
        gi_wp2_with ((refine ⟨trivial, ?_⟩; gi_at_call 27; refine (CallsIn.inRound ll (callsIn_wide.2 (HSum.out x _ (below_drewN hB 1)))).mono ?_; rintro e w' ⟨rfl, rfl⟩))
        change wpAnyIn _ _ _ _ _ _ _ _ _ (World.drew W)
        refine wpAnyIn_ready (rs := [0, 3]) (by kernel_rfl) (by simp) ?_
        refine AllReadyIn.cons rfl (fun K hK => ?_) (AllReadyIn.cons rfl (fun K hK => ?_) AllReadyIn.nil)
        · go_simp
          refine hK _ _ ?_; clear hK K
          refine wpAnyIn_ready (rs := [3]) (by kernel_rfl) (by simp) ?_
          refine AllReadyIn.cons rfl (fun K hK => ?_) AllReadyIn.nil
          go_simp
          refine hK _ _ ?_; clear hK K
          refine wpAnyIn_ready (rs := [4]) (by kernel_rfl) (by simp) ?_
          refine AllReadyIn.cons rfl (fun K hK => ?_) AllReadyIn.nil
          refine stepIn_append_lies rfl (.tmp 13) (.tmp 16) 56 rfl w.heap.size 54 i0 (.int .u32 0) 1 4 Tryd.underlying56 hi hz0 hz1 hz2 rfl (by decide) v pre.length (gs (pre.map fun k => sum32 (blk l s k))) rfl ((hrow.alloc _).drew) ⟨W.heap.size, 0, none⟩ 1 1 [.int .u32 (sum32 (blk l s x)).n] rfl rfl (one_cell4 W _ _) (by intro u hu; simp at hu; subst hu; rfl) (by omega) (by unfold maxLen; omega) (by omega) (by have := hB.size; simp; omega) _ rfl ?_
          intro g5 c5 w5 hown5 hg5 _ _
          obtain ⟨hv1, hv2, hr2, hk2, hb2⟩ := Boxed.appended (W := W.drew) hv (by decide) hrow hB.size (Nat.le_refl _) hown5 hg5
          have hc1 := hv1.cell
          have hf1 := hv1.frozen
          refine hK _ _ ?_; clear hK K
          refine wpAnyIn_ready (rs := [5]) (by kernel_rfl) (by simp) ?_
          refine AllReadyIn.cons rfl (fun K hK => ?_) AllReadyIn.nil
          go_simp
          refine hK _ _ ?_; clear hK K
          refine wpAnyIn_done (by kernel_rfl) ?_ _
          exact ⟨((KeepsOthers.drew W).trans hk2).from _, ⟨(below_drewN (Below.refl _ W) 1).trans hb2, (boxKeep bS (by decide) hrow hg5 (by omega)).cell.trans bS.cell.symm, (boxKeep bN (by decide) hrow hg5 (by omega)).cell.trans bN.cell.symm⟩, ⟨_, hv2, own_snoc (fun k => sum32 (blk l s k)) hr2, by simp⟩, ⟨boxKeep bS (by decide) hrow hg5 (by omega), boxKeep bN (by decide) hrow hg5 (by omega)⟩, (below_drewN hB 1).trans hb2⟩
        · go_simp
          refine hK _ _ ?_; clear hK K
          refine wpAnyIn_ready (rs := [0]) (by kernel_rfl) (by simp) ?_
          refine AllReadyIn.cons rfl (fun K hK => ?_) AllReadyIn.nil
          go_simp
          refine hK _ _ ?_; clear hK K
          refine wpAnyIn_ready (rs := [4]) (by kernel_rfl) (by simp) ?_
          refine AllReadyIn.cons rfl (fun K hK => ?_) AllReadyIn.nil
          refine stepIn_append_lies rfl (.tmp 13) (.tmp 16) 56 rfl w.heap.size 54 i0 (.int .u32 0) 1 4 Tryd.underlying56 hi hz0 hz1 hz2 rfl (by decide) v pre.length (gs (pre.map fun k => sum32 (blk l s k))) rfl ((hrow.alloc _).drew) ⟨W.heap.size, 0, none⟩ 1 1 [.int .u32 (sum32 (blk l s x)).n] rfl rfl (one_cell4 W _ _) (by intro u hu; simp at hu; subst hu; rfl) (by omega) (by unfold maxLen; omega) (by omega) (by have := hB.size; simp; omega) _ rfl ?_
          intro g5 c5 w5 hown5 hg5 _ _
          obtain ⟨hv1, hv2, hr2, hk2, hb2⟩ := Boxed.appended (W := W.drew) hv (by decide) hrow hB.size (Nat.le_refl _) hown5 hg5
          have hc1 := hv1.cell
          have hf1 := hv1.frozen
          refine hK _ _ ?_; clear hK K
          refine wpAnyIn_ready (rs := [5]) (by kernel_rfl) (by simp) ?_
          refine AllReadyIn.cons rfl (fun K hK => ?_) AllReadyIn.nil
          go_simp
          refine hK _ _ ?_; clear hK K
          refine wpAnyIn_done (by kernel_rfl) ?_ _
          exact ⟨((KeepsOthers.drew W).trans hk2).from _, ⟨(below_drewN (Below.refl _ W) 1).trans hb2, (boxKeep bS (by decide) hrow hg5 (by omega)).cell.trans bS.cell.symm, (boxKeep bN (by decide) hrow hg5 (by omega)).cell.trans bN.cell.symm⟩, ⟨_, hv2, own_snoc (fun k => sum32 (blk l s k)) hr2, by simp⟩, ⟨boxKeep bS (by decide) hrow hg5 (by omega), boxKeep bN (by decide) hrow hg5 (by omega)⟩, (below_drewN hB 1).trans hb2⟩
  case done =>
    rintro D ys W hD rfl ⟨⟨v, hv, hrow, hnil⟩, ⟨bS, bN⟩, hB⟩ hK
    have hc := hv.cell
    gi_wp2
    refine ⟨by simp, .inl ⟨_, _, rfl, run_takeDeferred hK, ?_⟩⟩
    rw [List.length_range] at hrow
    exact ⟨_, results_tmp rfl _ _ _, v, rfl, ownsRow_putObj hrow _ hK rfl, hB.trans (belowK_b (w := w) (Nat.le_refl _) W D _ _ (by omega) hK rfl rfl)⟩
  case stop =>
    rintro D c pre W _ _ h _
    exact h.elim
set_option maxHeartbeats 4000000 in
theorem Blocks0_in (A : Option Addr) (cap s : Nat) (w : World) (hs : 0 < s) (hs2 : s ≤ 9223372036854775807) :
    CallsIn Fence.wide 6 Tryd.prog 35 #[.slice A 0 cap, .int .i64 s] w fun e W' => ∃ v, e = .returned v ∧ W'.ownsRow w.heap.size 54 1 v 0 (gs []) ∧ Below w.heap.size w W' := by
  refine callsIn_of_wp_marks Tryd.func35 rfl trivial ?_ rfl
  simp only [Tryd.ntmps35, List.size_toArray, List.length_cons, List.length_nil, Nat.reduceAdd, Nat.reduceSub, Array.replicate_succ, Array.replicate_zero, List.push_toArray, List.append_toArray, List.nil_append, List.cons_append]
  have hs1 : ¬ (s : Int) < 1 := by omega
  gi_wp2_with (refine ⟨trivial, ?_⟩; gi_at_call 51; refine (chunk_in Fence.wide _ trivial rfl _ 0 cap s hs hs2 _).mono ?_; rintro e w' ⟨rfl, rfl⟩)
  have bO := Boxed.new w 56 (.slice none 0 0)
  obtain ⟨W0, hW0⟩ : ∃ W0, ((w.alloc (.cells #[.slice none 0 0] 56)).alloc (.cells #[.slice A 0 cap] 27)).alloc (.cells #[.int .i64 s] 3) = W0 := ⟨_, rfl⟩
  rw [hW0]
  have hB0 : Below w.heap.size w W0 := by rw [← hW0]; exact (((Below.refl _ w).alloc (Nat.le_refl _) _).alloc (by simp) _).alloc (by simp; omega) _
  have hsz : W0.heap.size = w.heap.size + 3 := by rw [← hW0]; simp
  have c1 : W0.cell? ⟨w.heap.size + 1, 0, none⟩ = some (.slice A 0 cap) := by
    rw [← hW0, World.cell?_alloc_lt _ _ _ (by simp)]
    have h := (Boxed.new (w.alloc (.cells #[.slice none 0 0] 56)) 27 (.slice A 0 cap)).cell
    rw [World.size_alloc] at h
    exact h
  have bO2 : Boxed W0 w.heap.size 56 (.slice none 0 0) := by rw [← hW0]; exact (bO.alloc _).alloc _
  clear bO hW0
  have hseq : SeqStopsK Fence.wide (6 - 1) Tryd.prog 57 #[.pointer (some ⟨w.heap.size + 1, 0, none⟩), .pointer (some ⟨w.heap.size + 1 + 1, 0, none⟩)] (fun k : Nat => #[Value.slice none 0 0]) (Below w.heap.size) (fun ys => ys = []) (fun _ => False) 0 W0 := fun ll J Jx W hW hJ _ hY h0 =>
    (chunk0_in Fence.wide (6 - 1) trivial rfl ll (w.heap.size + 1) (w.heap.size + 1 + 1) cap A J W ((hW.cell (p := ⟨w.heap.size + 1, 0, none⟩) (show w.heap.size + 1 < W0.heap.size by omega)).trans c1) h0).mono fun e W' ⟨he, hj⟩ => ⟨he, .inl ⟨[], rfl, hj⟩⟩
  refine wpIn_rangeFunc_ownG rfl (by omega) (gf := 57) (lb := #[.pointer (some ⟨w.heap.size + 1, 0, none⟩), .pointer (some ⟨w.heap.size + 1 + 1, 0, none⟩)]) rfl trivial (enters_of Tryd.func57 (by kernel_rfl) rfl)
    hseq belowK_t (belowK_b (by omega)) (Below.refl _ _) (fun _ => rfl)
    (fun pre W => Boxed W w.heap.size 56 (.slice none 0 0) ∧ Below w.heap.size w W)
    (fun _ _ _ => False)
    (OwnFrom.and (Own.from (boxed_own w.heap.size 56 (fun _ => .slice none 0 0)) _) (ownFrom_below (Nat.le_refl _) (by omega)))
    (fun _ _ _ _ _ hs _ _ => hs)
    ⟨bO2, hB0⟩
    (fun k => { tmps := #[.slice A 0 cap, .int .i64 s, undef, undef, .slice none 0 0, .pointer (some ⟨w.heap.size, 0, none⟩), .slice none 0 0, .int .i64 s, .bool false, .slice A 0 cap, .int .i64 s,
          .func (.func 57) #[] #[.pointer (some ⟨w.heap.size + 1, 0, none⟩), .pointer (some ⟨w.heap.size + 1 + 1, 0, none⟩)], .slice none 0 0, undef, undef, undef, undef, undef, undef], defers := [] }) ?assign ?body ?done ?stop
  case assign =>
    intro l x W K hK
    gi_wp2
    exact hK
  case body =>
    intro ll pre x W _ hlt
    exact absurd hlt (Nat.not_lt_zero _)
  case done =>
    rintro D ys W hD rfl ⟨hv, hB⟩ hK
    have hc := hv.cell
    gi_wp2
    refine ⟨by simp, .inl ⟨_, _, rfl, run_takeDeferred hK, ?_⟩⟩
    exact ⟨_, results_tmp rfl _ _ _, _, rfl, World.ownsRow_nil _ _ _ _, hB.trans (belowK_b (w := w) (Nat.le_refl _) W D _ _ (by omega) hK rfl rfl)⟩
  case stop =>
    rintro D c pre W _ _ h _
    exact h.elim
theorem Blocks_none (A : Option Addr) (n cap : Nat) (s : Int) (w : World) (hs : s < 1) :
    Calls Tryd.prog 35 #[.slice A n cap, .int .i64 s] w fun e W' => e = .returned (.slice none 0 0) ∧ w = W' := by
  go_enter Tryd.func35, Tryd.ntmps35
  go_wp2
  go_ret
  exact ⟨rfl, rfl⟩
theorem Blocks_c (A : Option Addr) (n cap s : Nat) (l : List F) (w : World) (ht : Tab w) (h : RowIn w A n cap l) (hn : n ≤ 1048576) (hs : 0 < s) (hs2 : s ≤ 9223372036854775807) :
    Calls Tryd.prog 35 #[.slice A n cap, .int .i64 s] w fun e W' => ∃ v, e = .returned v ∧ W'.ownsRow w.heap.size 54 1 v (blkCount n s) (gs (sums l s (blkCount n s))) ∧ Below w.heap.size w W' := by
  rcases Nat.eq_zero_or_pos n with hA | hA
  · subst hA
    have h1 := callsIn_wide.1 (Blocks0_in A cap s w hs hs2)
    have e : blkCount 0 s = 0 := by
      unfold blkCount
      exact Nat.div_eq_of_lt (by omega)
    rw [e]
    exact h1
  · obtain ⟨b, off, rfl, hb, _⟩ := h.row.2.2 hA
    exact callsIn_wide.1 (Blocks_in b off n cap s l w ht h hb hn hs hs2)
end Go.Proofs.YtbgdoemealddpaaDoor
