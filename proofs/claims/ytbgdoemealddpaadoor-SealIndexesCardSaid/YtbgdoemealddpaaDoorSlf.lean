/-
  SEALS: a seal's bytes, and what stands while they are laid. No conditions.
-/
import Derived.Test.YtbgdoemealddpaaDoorSle
import Derived.Lib.AppendStr
namespace Go.Proofs.YtbgdoemealddpaaDoor
open Go.RowKit
set_option maxRecDepth 100000
set_option linter.unusedVariables false

def sgn : List F := [ofN 70, ofN 76, ofN 82, ofN 86]
def wsN (l : List G) : List Nat := l.map fun x => x.n
theorem wsN_length (l : List G) : (wsN l).length = l.length := by simp [wsN]
theorem wsN_lt (l : List G) : ∀ z ∈ wsN l, z < 4294967296 := by
  intro z hz
  obtain ⟨x, _, rfl⟩ := List.mem_map.1 hz
  exact x.lt
theorem gi_wsN {l : List G} {i : Nat} (h : i < l.length) : gi ((wsN l).map fun (z : Nat) => (z : Int)) i = ((gg l i).n : Int) := by
  simp [gi, wsN, gg, h]
theorem wfU32 (k : Nat) (h : k < 4294967296) : (Lit.int .u32 (k : Int)).wf = true := by
  simp [Lit.wf, IntKind.min, IntKind.max, IntKind.bits, IntKind.signed]
  omega
/-- a row of sums, as numbers -/
theorem GRow.nums {w : World} {A : Option Addr} {n : Nat} {l : List G} (h : GRow w A n l) : IRow w A n .u32 ((wsN l).map fun (z : Nat) => (z : Int)) := by
  have hl : l.length = n := h.1
  refine ⟨by simp [wsN_length, hl], h.2.1, fun hn => ?_, fun i hi => ?_⟩
  · obtain ⟨b, off, e, hb, hc⟩ := h.2.2 hn
    exact ⟨b, off, e, hb, fun i hi => by rw [gi_wsN (by omega)]; exact hc i hi⟩
  · rw [gi_wsN (by omega)]
    exact wfU32 _ (gg l i).lt
/-- the first rows' sums -/
def smB (R : Nat → List G) : Nat → List F
  | 0 => []
  | r + 1 => smB R r ++ nsB (szP 4 (wsN (R r)))
def smN (q : Nat) (r : Nat) : Nat := r * (q * 4)
theorem smB_length {R : Nat → List G} {q : Nat} : ∀ m, (∀ r, r < m → (R r).length = q) → (smB R m).length = smN q m
  | 0, _ => by simp [smB, smN]
  | m + 1, h => by
    have h1 := smB_length m fun r hr => h r (by omega)
    have h2 := h m (by omega)
    show (smB R m ++ nsB (szP 4 (wsN (R m)))).length = (m + 1) * (q * 4)
    unfold smN at h1
    rw [List.length_append, h1, nsB_length, szP_N, wsN_length, h2, Nat.add_mul, Nat.one_mul]
theorem smB_congr {R R' : Nat → List G} : ∀ m, (∀ r, r < m → R r = R' r) → smB R m = smB R' m
  | 0, _ => rfl
  | m + 1, h => by
    unfold smB
    rw [smB_congr m fun r hr => h r (by omega), h m (by omega)]
/-- what stands ahead of the sums -/
def frB (n k s b i : Nat) : List F := (sgn ++ nsB (szP 2 [1, n, k, i])) ++ nsB (szP 4 [s, b])
theorem frB_length (n k s b i : Nat) : (frB n k s b i).length = 20 := by
  unfold frB
  rw [List.length_append, List.length_append, nsB_length, nsB_length, szP_N, szP_N]
  rfl
/-- what stands ahead of their sum -/
def hxB (n k s b i : Nat) (R : Nat → List G) (m : Nat) : List F := frB n k s b i ++ smB R m
def slB (n k s b i : Nat) (R : Nat → List G) (m : Nat) (col : List F) : List F := (hxB n k s b i R m ++ nsB (szP 4 [(sum32 (hxB n k s b i R m)).n])) ++ col
theorem hxB_length {n k s b i q : Nat} {R : Nat → List G} {m : Nat} (h : ∀ r, r < m → (R r).length = q) : (hxB n k s b i R m).length = 20 + smN q m := by
  unfold hxB
  rw [List.length_append, frB_length, smB_length m h]
theorem smN_eq (q n k : Nat) : 20 + smN q (n + k) + 4 = hdN n k q := by
  unfold smN hdN
  rw [Nat.mul_comm q 4, ← Nat.mul_assoc, Nat.mul_comm (n + k) 4]
  omega
theorem slB_length {n k s b i q : Nat} {R : Nat → List G} {col : List F} (h : ∀ r, r < n + k → (R r).length = q) : (slB n k s b i R (n + k) col).length = hdN n k q + col.length := by
  unfold slB
  rw [List.length_append, List.length_append, hxB_length h, nsB_length, szP_N, ← smN_eq]
  rfl
/-- the first four bytes -/
theorem append_sgn {w : World} {base g cap : Nat} (hown : w.ownsRow base 5 1 (.slice (some ⟨g, 0, none⟩) 0 cap) 0 []) (hc : 4 ≤ cap) (hbase : base ≤ w.heap.size) (ty : TypeId) :
    ∃ w', (Builtin.append_ #[27, 9] ty #[.slice (some ⟨g, 0, none⟩) 0 cap, .string { data := #[70, 76, 82, 86] }]).run Tryd.prog w = .ok (.slice (some ⟨g, 0, none⟩) 4 cap) w' ∧ w'.ownsRow base 5 1 (.slice (some ⟨g, 0, none⟩) 4 cap) 4 (cs sgn) ∧ w.grownBy w' (some g) := by
  obtain ⟨i, hi, hz, hsize, hby⟩ := info_parts info_u8
  obtain ⟨v', w', hr, h1, h2, _⟩ := Lib.run_append_own_string (P := Tryd.prog) w base 27 9 ty 5 i Tryd.underlying27 Tryd.underlying9 hi hz hsize hby _ 0 [] hown { data := #[70, 76, 82, 86] } (by unfold maxLen; decide) (by decide) hbase
  rcases hown.2 with ⟨e, _⟩ | ⟨g', cap', cur, hv, hbg, hg, hnc, hcm, hcs, htake⟩
  · cases e
  · injection hv with e1 _ e2
    injection e1 with e1
    injection e1 with e1
    subst e1 e2
    have hr2 := Lib.run_append_room_string (P := Tryd.prog) w 27 9 ty 5 i Tryd.underlying27 Tryd.underlying9 hi hsize g 0 cap cur hg { data := #[70, 76, 82, 86] } (by show 0 + 4 ≤ cap; omega) (by rw [hcs]; show 0 + 4 ≤ _; omega)
    rw [hr] at hr2
    injection hr2 with e3 e4
    subst e3
    exact ⟨w', hr, h1, h2⟩
/-- while a seal is laid: its box, the bytes so far -/
structure SwSt (w W : World) (T : TypeId) (H : Array Value) (V : Option Addr) (N c : Nat) (Y : List F) : Prop where
  box : Blk W w.heap.size T H
  own : W.ownsRow (w.heap.size + 1) 5 1 (.slice V N c) N (cs Y)
  sz : w.heap.size + 1 ≤ W.heap.size
  bel : Below w.heap.size w W
namespace SwSt
variable {w W : World} {T : TypeId} {H : Array Value} {V : Option Addr} {N c : Nat} {Y : List F}
theorem own_lo (h : SwSt w W T H V N c Y) : ∀ g, (Value.slice V N c).ownBlock = some g → w.heap.size + 1 ≤ g := fun g hg => (h.own.lt g hg).1
theorem low {W' : World} {V' : Option Addr} {N' c' : Nat} {Y' : List F} (h : SwSt w W T H V N c Y) (hb : Below (w.heap.size + 1) W W') (ho : W'.ownsRow (w.heap.size + 1) 5 1 (.slice V' N' c') N' (cs Y')) : SwSt w W' T H V' N' c' Y' :=
  ⟨h.box.lowB (by omega) hb, ho, by have := hb.size; have := h.sz; omega, h.bel.trans (hb.mono (by omega))⟩
theorem below {W' : World} (h : SwSt w W T H V N c Y) (hb : Below W.heap.size W W') : SwSt w W' T H V N c Y := h.low (hb.mono h.sz) (own_below h.own hb)
/-- more numbers of one size -/
theorem ints (h : SwSt w W T H V N c Y) (hN : N ≤ 1000000) (s : Nat) (hs : s ≤ 8) (zs : List Nat) (hz : ∀ z ∈ zs, z < 9223372036854775808) (n : Nat) (hn : zs.length = n) (hn1 : n ≤ 100) (t : TypeId) (C : Array Value) (hC : C = ((zs.map fun (z : Nat) => (z : Int)).map (Value.int .i64)).toArray) (a ca : Nat) (ha : a = W.heap.size) (zi : Int) (hzi : zi = (s : Int)) :
    Calls Tryd.prog 25 #[.slice V N c, .int .i64 zi, .slice (some ⟨a, 0, none⟩) n ca] (W.alloc (.cells C t)) fun e w' => ∃ V' c', e = .returned (.slice V' (N + nsN (szP s zs)) c') ∧ SwSt w w' T H V' (N + nsN (szP s zs)) c' (Y ++ nsB (szP s zs)) := by
  subst ha hzi
  have hb := (Below.refl W.heap.size W).alloc (Nat.le_refl _) (.cells C t)
  have h' := h.below hb
  have hI := irow_blk (Blk.new W t C) (zs.map fun (z : Nat) => (z : Int)) n hC (by rw [List.length_map]; exact hn) (by unfold maxLen; omega) (by
    intro x hx
    obtain ⟨z, hz1, rfl⟩ := List.mem_map.1 hx
    exact wfI _ (hz z hz1))
  refine (layI_c s hs (some ⟨W.heap.size, 0, none⟩) n ca zs hz (by omega) _ hI _ V N c Y h'.own hN ?_ h'.sz).mono ?_
  · intro _ b o e
    cases e
    exact fun e => by have := (h.own.lt _ e).2; omega
  · rintro e w' ⟨V', c', rfl, ho, hO⟩
    exact ⟨V', c', rfl, h'.low (hO.below (by have := h'.sz; omega) h'.sz h'.own_lo) ho⟩
theorem word (h : SwSt w W T H V N c Y) (hN : N ≤ 1000000) (x : G) (t : TypeId) (C : Array Value) (hC : C = #[.int .u32 (x.n : Int)]) (a ca : Nat) (ha : a = W.heap.size) :
    Calls Tryd.prog 26 #[.slice V N c, .int .i64 4, .slice (some ⟨a, 0, none⟩) 1 ca] (W.alloc (.cells C t)) fun e w' => ∃ V' c', e = .returned (.slice V' (N + 4) c') ∧ SwSt w w' T H V' (N + 4) c' (Y ++ nsB (szP 4 [x.n])) := by
  subst ha
  have hb := (Below.refl W.heap.size W).alloc (Nat.le_refl _) (.cells C t)
  have h' := h.below hb
  have hI := irow_blk (Blk.new W t C) ([x.n].map fun (z : Nat) => (z : Int)) 1 hC (by simp) (by unfold maxLen; omega) (by
    intro y hy
    simp at hy
    subst hy
    exact wfU32 _ x.lt)
  refine (layW_c 4 (by omega) (some ⟨W.heap.size, 0, none⟩) 1 ca [x.n] (by intro z hz; simp at hz; subst hz; exact x.lt) (by omega) _ hI _ V N c Y h'.own hN ?_ h'.sz).mono ?_
  · intro _ b o e
    cases e
    exact fun e => by have := (h.own.lt _ e).2; omega
  · rintro e w' ⟨V', c', rfl, ho, hO⟩
    exact ⟨V', c', rfl, h'.low (hO.below (by have := h'.sz; omega) h'.sz h'.own_lo) ho⟩
/-- a row of sums that came in -/
theorem row (h : SwSt w W T H V N c Y) (hN : N ≤ 1000000) {A : Option Addr} {q : Nat} (ca : Nat) {l : List G} (hl : GRow w A q l) (hq : q ≤ 1000) :
    Calls Tryd.prog 26 #[.slice V N c, .int .i64 4, .slice A q ca] W fun e w' => ∃ V' c', e = .returned (.slice V' (N + q * 4) c') ∧ SwSt w w' T H V' (N + q * 4) c' (Y ++ nsB (szP 4 (wsN l))) := by
  have hI := (hl.below h.bel).nums
  have hn : nsN (szP 4 (wsN l)) = q * 4 := by rw [szP_N, wsN_length, hl.1]
  have hL := layW_c 4 (by omega) A q ca (wsN l) (wsN_lt l) hq W hI _ V N c Y h.own hN (fun h0 b o e => by
    obtain ⟨b', o', e', hb', _⟩ := hl.2.2 h0
    rw [e'] at e
    cases e
    exact fun e => by have := (h.own.lt _ e).1; omega) h.sz
  rw [hn] at hL
  refine hL.mono ?_
  rintro e w' ⟨V', c', rfl, ho, hO⟩
  exact ⟨V', c', rfl, h.low (hO.below (by have := h.sz; omega) h.sz h.own_lo) ho⟩
end SwSt
end Go.Proofs.YtbgdoemealddpaaDoor
