/-
  IN WHICHEVER ORDER SYMBOLS STAND IT COSTS AS MUCH; A SYMBOL MORE COSTS MORE: the mathematics, and the rows that are appended to. No conditions.
-/
import Derived.Test.YtfnjjeopojdnjaaLaw09d
import Derived.ArgAppend
namespace Go.Proofs.Ytfnjjeopojdnjaa
open Go.RowKit
set_option linter.unusedVariables false

theorem sumF_split (f : Nat → Nat) (a b : Nat) : sumF f (a + b) = sumF f a + sumF (fun v => f (a + v)) b := by
  induction b with
  | zero => rfl
  | succ b ih => rw [← Nat.add_assoc, sumF_succ, sumF_succ, ih, Nat.add_assoc]
/-- a place behind the turn, and back -/
def rotP (n cut v : Nat) : Nat := if v < n - cut then v + cut else v - (n - cut)
def rotB (n cut u : Nat) : Nat := if u < cut then u + (n - cut) else u - cut
theorem rotP_lt {n cut v : Nat} (hc : cut ≤ n) (hv : v < n) : rotP n cut v < n := by unfold rotP; split <;> omega
theorem rotB_lt {n cut u : Nat} (hc : cut ≤ n) (hu : u < n) : rotB n cut u < n := by unfold rotB; split <;> omega
theorem rot_back {n cut v : Nat} (hc : cut ≤ n) (hv : v < n) : rotB n cut (rotP n cut v) = v := by
  unfold rotB rotP
  repeat' split
  all_goals omega
theorem rot_sum (g : Nat → Nat) {n cut : Nat} (hc : cut ≤ n) : sumF (fun v => g (rotP n cut v)) n = sumF g n := by
  have h1 := sumF_split (fun v => g (rotP n cut v)) (n - cut) cut
  have h2 := sumF_split g cut (n - cut)
  rw [show n - cut + cut = n by omega] at h1
  rw [show cut + (n - cut) = n by omega] at h2
  rw [h1, h2, Nat.add_comm]
  congr 1
  · refine sumF_congr fun v hv => ?_
    show g (rotP n cut (n - cut + v)) = g v
    unfold rotP
    rw [if_neg (by omega), show n - cut + v - (n - cut) = v by omega]
  · refine sumF_congr fun v hv => ?_
    show g (rotP n cut v) = g (cut + v)
    unfold rotP
    rw [if_pos hv, Nat.add_comm]
def turnF (fr : List Int) (n cut v : Nat) : Int := if v < n then gi fr (rotP n cut v) else 0
theorem turn_sum {fr : List Int} {n cut : Nat} (hc : cut ≤ n) (F : Int → Nat → Nat) (hF : ∀ x, F 0 x = 0) (o : Nat → Nat) : sumF (fun v => F (gi (lsF (turnF fr n cut) (n + 2)) v) (o v)) (n + 2) = sumF (fun v => F (gi fr (rotP n cut v)) (o v)) n := by
  have e1 : ∀ v, v < n + 2 → gi (lsF (turnF fr n cut) (n + 2)) v = turnF fr n cut v := fun v hv => lsF_at _ hv
  rw [sumF_succ, sumF_succ, e1 n (by omega), e1 (n + 1) (by omega)]
  have e2 : turnF fr n cut n = 0 := if_neg (by omega)
  have e3 : turnF fr n cut (n + 1) = 0 := if_neg (by omega)
  rw [e2, e3, hF, hF, Nat.add_zero, Nat.add_zero]
  refine sumF_congr fun v hv => ?_
  rw [e1 v (by omega)]
  unfold turnF
  rw [if_pos hv]
theorem turn_co {fr : List Int} {n cut : Nat} (hc : cut ≤ n) (o : Nat → Nat) : coF (lsF (turnF fr n cut) (n + 2)) o (n + 2) = sumF (fun v => (gi fr (rotP n cut v)).toNat * o v) n :=
  turn_sum hc (fun x y => x.toNat * y) (fun x => by simp) o
theorem turn_kr {fr : List Int} {n cut : Nat} (hc : cut ≤ n) (o : Nat → Nat) : krF (lsF (turnF fr n cut) (n + 2)) o (n + 2) = sumF (fun v => if 0 < gi fr (rotP n cut v) then 2 ^ (15 - o v) else 0) n :=
  turn_sum hc (fun x y => if 0 < x then 2 ^ (15 - y) else 0) (fun x => by simp) o
theorem turn_cost {fr : List Int} {n cut L m m' : Nat} {A B : Nat → Nat} (hc : cut ≤ n) (h : MadeX fr n L m A) (h' : MadeX (lsF (turnF fr n cut) (n + 2)) (n + 2) L m' B) : coF (lsF (turnF fr n cut) (n + 2)) B (n + 2) = coF fr A n := by
  have hp : ∀ v, v < n → gi (lsF (turnF fr n cut) (n + 2)) v = gi fr (rotP n cut v) := fun v hv => by
    rw [lsF_at _ (by omega)]
    exact if_pos hv
  -- the turned lengths serve the first
  have hB := turn_co (fr := fr) hc B
  have h1 : sumF (fun v => (gi fr (rotP n cut v)).toNat * B v) n = coF fr (fun u => B (rotB n cut u)) n := by
    rw [show coF fr (fun u => B (rotB n cut u)) n = _ from (rot_sum (fun u => (gi fr u).toNat * B (rotB n cut u)) hc).symm]
    exact sumF_congr fun v hv => by rw [rot_back hc hv]
  have h2 : krF fr (fun u => B (rotB n cut u)) n = krF (lsF (turnF fr n cut) (n + 2)) B (n + 2) := by
    rw [turn_kr hc, show krF fr (fun u => B (rotB n cut u)) n = _ from (rot_sum (fun u => if 0 < gi fr u then 2 ^ (15 - B (rotB n cut u)) else 0) hc).symm]
    exact sumF_congr fun v hv => by rw [rot_back hc hv]
  have k1 := h.least (fun u => B (rotB n cut u)) (fun u hu h0 => by
    have h3 := rotB_lt hc hu
    have h4 : rotP n cut (rotB n cut u) = u := by
      unfold rotB rotP
      repeat' split
      all_goals omega
    exact ⟨h'.pos _ (by omega) (by rw [hp _ h3, h4]; exact h0), h'.most _⟩) (by rw [h2]; exact h'.kr_le)
  -- and back
  have h5 : coF (lsF (turnF fr n cut) (n + 2)) (fun v => A (rotP n cut v)) (n + 2) = coF fr A n := by
    rw [turn_co hc]
    exact rot_sum (fun u => (gi fr u).toNat * A u) hc
  have h6 : krF (lsF (turnF fr n cut) (n + 2)) (fun v => A (rotP n cut v)) (n + 2) = krF fr A n := by
    rw [turn_kr hc]
    exact rot_sum (fun u => if 0 < gi fr u then 2 ^ (15 - A u) else 0) hc
  have k2 := h'.least (fun v => A (rotP n cut v)) (fun v hv h0 => by
    have hvn : v < n := by
      rcases Nat.lt_or_ge v n with h7 | h7
      · exact h7
      · rw [lsF_at _ hv] at h0
        unfold turnF at h0
        rw [if_neg (by omega)] at h0
        omega
    rw [hp v hvn] at h0
    exact ⟨h.pos _ (rotP_lt hc hvn) h0, h.most _⟩) (by rw [h6]; exact h.kr_le)
  omega
def moreF (fr : List Int) (n v : Nat) : Int := if v < n then gi fr v else 1
theorem more_one {fr : List Int} {n L m m' : Nat} {A C : Nat → Nat} (h : MadeX fr n L m A) (h' : MadeX (lsF (moreF fr n) (n + 1)) (n + 1) L m' C) : coF fr A n < coF (lsF (moreF fr n) (n + 1)) C (n + 1) := by
  have hp : ∀ v, v < n → gi (lsF (moreF fr n) (n + 1)) v = gi fr v := fun v hv => by
    rw [lsF_at _ (by omega)]
    exact if_pos hv
  have hl : gi (lsF (moreF fr n) (n + 1)) n = 1 := by
    rw [lsF_at _ (by omega)]
    exact if_neg (by omega)
  have e1 : coF (lsF (moreF fr n) (n + 1)) C (n + 1) = coF fr C n + 1 * C n := by
    show sumF _ n + (gi (lsF (moreF fr n) (n + 1)) n).toNat * C n = _
    rw [hl]
    congr 1
    exact sumF_congr fun v hv => by rw [hp v hv]
  have e2 : krF fr C n ≤ krF (lsF (moreF fr n) (n + 1)) C (n + 1) := by
    show sumF _ n ≤ sumF _ n + _
    refine Nat.le_trans (Nat.le_of_eq ?_) (Nat.le_add_right _ _)
    exact sumF_congr fun v hv => by rw [hp v hv]
  have k := h.least C (fun v hv h0 => ⟨h'.pos v (by omega) (by rw [hp v hv]; exact h0), h'.most v⟩) (Nat.le_trans e2 h'.kr_le)
  have h3 := h'.pos n (by omega) (by rw [hl]; decide)
  omega

/-! ### Appending to a row that is used again -/
theorem own_first {w : World} {base g c n m : Nat} {e : TypeId} {xs ys : List Value} (h : w.ownsRow base e 1 (.slice (some ⟨g, 0, none⟩) (n + m) c) (n + m) (xs ++ ys)) (hx : xs.length = n) : w.ownsRow base e 1 (.slice (some ⟨g, 0, none⟩) n c) n xs := by
  refine ⟨by omega, ?_⟩
  rcases h.2 with ⟨hv, _⟩ | ⟨g', cap', cur, hv, hb, hg, h1, h2, h3, h4⟩
  · cases hv
  · injection hv with hv1 _ hv3
    injection hv1 with hv1
    injection hv1 with hv1
    subst hv1 hv3
    refine .inr ⟨g, c, cur, rfl, hb, hg, by omega, h2, h3, ?_⟩
    have h5 := congrArg (List.take n) h4
    rw [List.take_take, List.take_append_of_le_length (show n ≤ xs.length by omega), List.take_of_length_le (show xs.length ≤ n by omega)] at h5
    rw [Nat.mul_one, ← h5]
    congr 1
    omega
theorem two_cellF (w : World) : ∀ j u, ([.int .i64 0, .int .i64 0] : List Value)[j]? = some u → (w.alloc (.cells #[.int .i64 0, .int .i64 0] 3)).cell? ((⟨w.heap.size, 0, none⟩ : Addr).add j) = some u := by
  have h := World.news_of_block (cs := #[.int .i64 0, .int .i64 0]) (t := 3) (fr := (0, 0)) (heap_alloc_new w (.cells #[.int .i64 0, .int .i64 0] 3))
  exact h
theorem IRow.kept9 {w w' : World} {g n : Nat} {l : List Int} {row : Option Nat} (h : IRow w (some ⟨g, 0, none⟩) n .i64 l) (hg : w.grownBy w' row) (hne : 0 < n → row ≠ some g) : IRow w' (some ⟨g, 0, none⟩) n .i64 l := by
  refine ⟨h.len, h.max, fun hn => ?_, h.wf⟩
  obtain ⟨b, off, e, hl, hc⟩ := h.cells hn
  injection e with e
  injection e with e e'
  subst e e'
  have hs := hg.size
  exact ⟨g, 0, rfl, by omega, fun i hi => (hg.cell_far ⟨g, 0 + i, none⟩ hl (fun e => hne hn e.symm)).trans (hc i hi)⟩
theorem wpList_append_keeps {P : Program} (w : World) {ops : Array Oper} {rest : List Oper} {o : Oper} {a : Act} {Q : Exit → Act → World → Prop}
    (hg : o.guard = none) (s x : Operand) (t : TypeId) (hop : o.op = Op.call { callee := Callee.builtin Builtin.append, args := #[s, x], argTypes := #[t, t] })
    (base : Nat) (e : TypeId) (i : TypeInfo) (z : Value) (bytes : Nat) (h1 : P.underlying t = some (.slice e)) (h2 : P.info? e = some i) (h3 : i.zero = some z) (h4 : i.size = 1) (h5 : i.bytes = bytes) (h6 : z.cells.size = 1)
    (g n cap : Nat) (xs : List Value) (hs : a.eval s = .slice (some ⟨g, 0, none⟩) n cap) (hown : w.ownsRow base e 1 (.slice (some ⟨g, 0, none⟩) n cap) n xs) (ad : Addr) (m c : Nat) (news : List Value) (hx : a.eval x = .slice (some ad) m c) (hn : news.length = m * 1)
    (hc : ∀ j u, news[j]? = some u → w.cell? (ad.add j) = some u) (h1c : ∀ u ∈ news, u.oneCell' = true) (b1 : n + m ≤ maxLen) (b2 : (n + m) * bytes ≤ 140737488355328) (hbase : base ≤ w.heap.size)
    (hK : ∀ v' w', w'.ownsRow base e 1 v' (n + m) (xs ++ news) → w'.ownsRow base e 1 (.slice (some ⟨g, 0, none⟩) n cap) n xs → w.grownBy w' (some g) → wpList P ops Q rest (a.put o.dst v') w') :
    wpList P ops Q (o :: rest) a w := by
  have hxl : xs.length = n := by have := hown.1; omega
  by_cases hr : n + m ≤ cap
  · refine wpList_append_fits w hg s x t hop base e i 1 h1 h2 h4 g n cap xs hs hown ad m c news hx hn hc h1c hr fun w' r1 r2 => ?_
    exact hK _ w' r1 (own_first r1 hxl) r2
  · refine wpList_append_grows w hg s x t hop e i z 1 bytes h1 h2 h3 h4 h5 h6 (by decide) (some ⟨g, 0, none⟩) n cap xs hs (fun h => by cases h) (by omega) (fun b hb j u hu => ?_) ad m c news hx hn hc h1c (by omega) b1 b2 fun v' w' r1 r2 => ?_
    · injection hb with hb
      subst hb
      have hj : j < n := by rw [← hxl]; exact (List.getElem?_eq_some_iff.1 hu).1
      have e2 : (⟨g, 0, none⟩ : Addr).add j = ⟨g, j, none⟩ := by unfold Addr.add; split <;> simp_all
      rw [e2, hown.cellAt j (by omega)]
      exact hu
    · refine hK v' w' (own_base2 r1 hbase) (hown.kept r2 (by simp [Value.ownBlock])) ?_
      exact ⟨r2.os, r2.tape, r2.output, r2.size, fun k hk _ => r2.block k hk (by simp)⟩
end Go.Proofs.Ytfnjjeopojdnjaa
