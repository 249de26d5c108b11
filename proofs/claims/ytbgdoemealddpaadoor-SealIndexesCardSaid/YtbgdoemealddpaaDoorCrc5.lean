/-
  THE CONTRACT OF crc.Blocks: the sums of a row's blocks. Rows of at most 2^20 bytes.
-/
import Derived.Test.YtbgdoemealddpaaDoorCrc4
namespace Go.Proofs.YtbgdoemealddpaaDoor
open Go.RowKit Go.Shelf
set_option maxRecDepth 100000
set_option linter.unusedVariables false
attribute [local go_sem] Oper.semAt_some

/-- the cells of a row of words -/
def gs (l : List G) : List Value := l.map fun x => .int .u32 x.n
theorem gs_length (l : List G) : (gs l).length = l.length := by simp [gs]
theorem gs_append (l m : List G) : gs (l ++ m) = gs l ++ gs m := by simp [gs]
theorem gs_one (l : List G) : ∀ u ∈ gs l, u.oneCell' = true := by
  intro u hu
  simp only [gs, List.mem_map] at hu
  obtain ⟨x, _, rfl⟩ := hu
  rfl
/-- the k-th block -/
def blk (l : List F) (s k : Nat) : List F := (l.drop (k * s)).take s
/-- the first k blocks' sums -/
def sums (l : List F) (s k : Nat) : List G := (List.range k).map fun i => sum32 (blk l s i)
theorem sums_succ (l : List F) (s k : Nat) : sums l s (k + 1) = sums l s k ++ [sum32 (blk l s k)] := by simp [sums, List.range_succ]
theorem sums_length (l : List F) (s k : Nat) : (sums l s k).length = k := by simp [sums]
theorem Row.blk {w : World} {b off n : Nat} {l : List F} (h : Row w (some ⟨b, off, none⟩) n l) (s k : Nat) (hk : k * s ≤ n) : Row w (some ⟨b, off + k * s, none⟩) (blkLen n s k) (blk l s k) := by
  have hl := h.len
  refine ⟨by unfold Go.Proofs.YtbgdoemealddpaaDoor.blk blkLen; simp; omega, by have := h.2.1; unfold blkLen; omega, fun hn => ?_⟩
  obtain ⟨b', o', e, hb, hc⟩ := h.2.2 (by unfold blkLen at hn; omega)
  injection e with e
  injection e with e1 e2
  subst e1 e2
  refine ⟨b, off + k * s, rfl, hb, fun i hi => ?_⟩
  have h1 : i < s ∧ i < n - k * s := by unfold blkLen at hi; omega
  rw [Nat.add_assoc, hc (k * s + i) (by omega), gt_lt (by omega), gt_lt (by unfold Go.Proofs.YtbgdoemealddpaaDoor.blk; simp; omega)]
  simp [Go.Proofs.YtbgdoemealddpaaDoor.blk]

theorem info_u32 : (Tryd.prog.info? 54).map (fun i => (i.zero, i.size, i.bytes)) = some (some (.int .u32 0), 1, 4) := by kernel_rfl

set_option maxHeartbeats 2000000 in
theorem chunk_in (F : Fence) (m : Nat) (h20 : F.fn 51) (hro : F.round = none) (A : Option Addr) (n c s : Nat) (hs : 0 < s) (hs2 : s ≤ 9223372036854775807) (w : World) :
    CallsIn F m Tryd.prog 51 #[.slice A n c, .int .i64 s] w fun e w' => e = .returned (.func (.func 57) #[] #[.pointer (some ⟨w.heap.size, 0, none⟩), .pointer (some ⟨w.heap.size + 1, 0, none⟩)]) ∧ w' = (w.alloc (.cells #[.slice A n c] 27)).alloc (.cells #[.int .i64 s] 3) := by
  refine callsIn_of_wp Tryd.func51 rfl h20 ?_ hro
  simp only [Tryd.ntmps51, List.size_toArray, List.length_cons, List.length_nil, Nat.reduceAdd, Nat.reduceSub, Array.replicate_succ, Array.replicate_zero, List.push_toArray, List.append_toArray, List.nil_append, List.cons_append]
  have h1 : ¬ (s : Int) < 1 := by omega
  gi_wp2
  go_ret
  exact ⟨rfl, rfl⟩
theorem chunk0_in (F : Fence) (m : Nat) (h23 : F.fn 57) (hro : F.round = none) (l Bs Bn c : Nat) (A : Option Addr) (J : List Nat → World → Prop) (W : World) (hBs : W.cell? ⟨Bs, 0, none⟩ = some (.slice A 0 c)) (h0 : J [] W) :
    CallsIn F m Tryd.prog 57 #[.func (.yield l) #[] #[], .pointer (some ⟨Bs, 0, none⟩), .pointer (some ⟨Bn, 0, none⟩)] W fun e W' => (∃ v, e = .returned v) ∧ J [] W' := by
  refine callsIn_of_wp Tryd.func57 rfl h23 ?_ hro
  simp only [Tryd.ntmps57, List.size_toArray, List.length_cons, List.length_nil, Nat.reduceAdd, Nat.reduceSub, Array.replicate_succ, Array.replicate_zero, List.push_toArray, List.append_toArray, List.nil_append, List.cons_append]
  gi_wp2
  gi_loopw [4] (fun i wr => i = .int .i64 0 ∧ wr.cell? ⟨Bs, 0, none⟩ = some (.slice A 0 c) ∧ J [] wr) (fun _ _ => 0)
  case atStart => exact ⟨rfl, hBs, h0⟩
  case round =>
    obtain ⟨rfl, hc, hJs⟩ := hrel
    gi_wp2
    go_end0
    exact ⟨⟨_, rfl⟩, hJs⟩
theorem chunk_stops (F : Fence) (m : Nat) (h23 : F.fn 57) (hro : F.round = none) (hm : 1 ≤ m) (Bs Bn n₀ b off n cap s : Nat) (hn : n ≤ 1048576) (hcap : n ≤ cap) (hs0 : 0 < s) (hs : s ≤ 9223372036854775807) (w : World)
    (hbs : Bs < w.heap.size) (hbn : Bn < w.heap.size)
    (hBs : w.cell? ⟨Bs, 0, none⟩ = some (.slice (some ⟨b, off, none⟩) n cap)) (hBn : w.cell? ⟨Bn, 0, none⟩ = some (.int .i64 s)) :
    SeqStopsK F m Tryd.prog 57 #[.pointer (some ⟨Bs, 0, none⟩), .pointer (some ⟨Bn, 0, none⟩)] (fun k : Nat => #[blkV b off n s k]) (Kc n₀ Bs Bn) (fun ys => ys = List.range (blkCount n s)) (fun pre => pre <+: List.range (blkCount n s)) (blkCount n s) w := fun l J Jx W hW hJ _ hY h0 =>
  chunk1_in F m h23 hro hm l Bs Bn n₀ b off n cap s hn hcap hs0 hs J Jx W hJ hY ((hW.cell (p := ⟨Bs, 0, none⟩) hbs).trans hBs) ((hW.cell (p := ⟨Bn, 0, none⟩) hbn).trans hBn) h0
theorem Kc.put {w : World} {n₀ Bs Bn : Nat} (hn : n₀ ≤ w.heap.size) (h1 : Bs < w.heap.size) (h2 : Bn < w.heap.size) (W : World) (l : Nat) (o o' : Obj) (hl : w.heap.size ≤ l) (ho : W.heap[l]? = some o) (hc : o.isCells = false) (hw : o.isWalk = false) : Kc n₀ Bs Bn W (W.putObj l o') := by
  have h := belowK_b (w := w) (n₀ := w.heap.size) (Nat.le_refl _) W l o o' hl ho hc hw
  exact ⟨h.mono hn, h.cell (p := ⟨Bs, 0, none⟩) h1, h.cell (p := ⟨Bn, 0, none⟩) h2⟩
theorem own_snoc {W : World} {base : Nat} {v : Value} {pre : List Nat} {x : Nat} (f : Nat → G) (h : W.ownsRow base 54 1 v (pre.length + 1) (gs (pre.map f) ++ [.int .u32 (f x).n])) : W.ownsRow base 54 1 v (pre ++ [x]).length (gs ((pre ++ [x]).map f)) := by
  simpa [gs] using h
end Go.Proofs.YtbgdoemealddpaaDoor
