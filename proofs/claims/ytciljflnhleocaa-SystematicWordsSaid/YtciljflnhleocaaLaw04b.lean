/-
  FOR LAW 04's SystematicWords: the two fillings told in one form.
-/
import Derived.Test.YtciljflnhleocaaLaw04a
import Derived.Test.YtciljflnhleocaaRef6
import Derived.Test.YtciljflnhleocaaLaw03i
import Derived.Lib.MinMax
namespace Go.Proofs.Ytciljflnhleocaa
open Go.RowKit
set_option maxRecDepth 100000
set_option linter.unusedVariables false

theorem wpList_append_own_w {P : Program} {w : World} {ops : Array Oper} {rest : List Oper} {o : Oper} {a : Act} {Q : Exit → Act → World → Prop} (hw : Region.wanted o (yielded ops a.tmps) = true) (s x : Operand) (t : TypeId)
    (ho : o.op = .call { callee := .builtin .append, args := #[s, x], argTypes := #[t, t] })
    (base : Nat) (e : TypeId) (i : TypeInfo) (z : Value) (size bytes : Nat) (ht : P.underlying t = some (.slice e)) (hi : P.info? e = some i) (hz : i.zero = some z)
    (hsize : i.size = size) (hby : i.bytes = bytes) (hzs : z.cells.size = size) (hsz : 0 < size)
    (v : Value) (n : Nat) (xs : List Value) (hs : a.eval s = v) (hown : w.ownsRow base e size v n xs)
    (ad : Addr) (m c : Nat) (news : List Value) (hx : a.eval x = .slice (some ad) m c) (hl : news.length = m * size) (hnews : ∀ j u, news[j]? = some u → w.cell? (ad.add j) = some u) (h1 : ∀ u ∈ news, u.oneCell' = true)
    (h63 : n + m ≤ maxLen) (hbytes : (n + m) * bytes ≤ 140737488355328) (hbase : base ≤ w.heap.size)
    (h : ∀ v' w', w'.ownsRow base e size v' (n + m) (xs ++ news) → w.grownBy w' v.ownBlock → wpList P ops Q rest (a.put o.dst v') w') : wpList P ops Q (o :: rest) a w := by
  refine wpList_step fun K hK => ?_
  rw [if_pos hw]
  obtain ⟨v', w', hrun, r1, r2, _⟩ := run_append_own (P := P) w base t o.type e i z size bytes ht hi hz hsize hby hzs hsz v n xs hown ad m c news hl hnews h1 h63 hbytes hbase
  unfold Oper.wp execOp
  simp only [ho, resolve, invoke, builtin, Sem.run_bind, Sem.run_pure, Result.andThen_ok, List.map_toArray, List.map_cons, List.map_nil, hs, hx, hrun]
  exact hK _ _ (h v' w' r1 r2)
/-- the error's number and the word that a filling gives -/
def FSpec (len lb : Nat) (l : List F) (th : List Bool) (n : Int) (er : Int) (z : List F) : Prop :=
  ((len = lb ∧ 1 ≤ n ∧ n ≤ len ∧ len ≤ 255) ∧ (((fth th n.toNat len).length < n.toNat ∧ er = 52 ∧ z = []) ∨ (n.toNat ≤ (fth th n.toNat len).length ∧ er = 0 ∧ ∃ T, z = vals T 0 len ∧ IsThrough (thX th n.toNat len) (thY l th n.toNat len) T))) ∨
  (¬ (len = lb ∧ 1 ≤ n ∧ n ≤ len ∧ len ≤ 255) ∧ er = 1 ∧ z = [])
theorem FSpec.unique {len lb : Nat} {l : List F} {th : List Bool} {n er er' : Int} {z z' : List F} (h : FSpec len lb l th n er z) (h' : FSpec len lb l th n er' z') : er = er' ∧ z = z' := by
  rcases h with ⟨hp, h⟩ | ⟨hp, rfl, rfl⟩
  · rcases h' with ⟨_, h'⟩ | ⟨hp', _⟩
    · rcases h with ⟨a, rfl, rfl⟩ | ⟨a, rfl, T, rfl, hT⟩
      · rcases h' with ⟨_, rfl, rfl⟩ | ⟨b, _⟩
        · exact ⟨rfl, rfl⟩
        · omega
      · rcases h' with ⟨b, _⟩ | ⟨_, rfl, T', rfl, hT'⟩
        · omega
        · rw [IsThrough.unique (thX_nodup th _ len (by omega)) hT hT']
          exact ⟨rfl, rfl⟩
    · exact absurd hp hp'
  · rcases h' with ⟨hp', _⟩ | ⟨_, rfl, rfl⟩
    · exact absurd hp' hp
    · exact ⟨rfl, rfl⟩
section
variable {w : World} {A B : Option Addr} {len cap lb : Nat} {l : List F} {th : List Bool}
theorem Fill_any (cb : Nat) (n : Int) (h : RowIn w A len cap l) (hb : BRow w B lb th) (hl : len ≤ 24) (hlb : lb ≤ 24) :
    Calls Try.prog 28 #[.slice A len cap, .slice B lb cb, .int .i64 n] w fun e w' =>
      ∃ p t c er z, e = .returned (.tuple #[.slice p t c, .int .i64 er]) ∧ Row w' p t z ∧ Hid (FSpec len lb l th n er z) ∧ Below w.heap.size w w' := by
  by_cases hp : len = lb ∧ 1 ≤ n ∧ n ≤ len ∧ len ≤ 255
  · obtain ⟨rfl, a1, a2, a3⟩ := hp
    obtain ⟨m, rfl⟩ := Int.eq_ofNat_of_zero_le (show 0 ≤ n by omega)
    by_cases hf : (fth th m len).length < m
    · refine (Fill_lost A B len cap cb m l th w h.row hb (by omega) (by omega) a3 hf).mono ?_
      rintro e w' ⟨rfl, hb1⟩
      exact ⟨none, 0, 0, 52, [], rfl, Row.nil _ _, .inl ⟨⟨rfl, a1, a2, a3⟩, .inl ⟨hf, rfl, rfl⟩⟩, hb1⟩
    · refine (Fill_ok A B len cap cb m l th w h.row hb (by omega) (by omega) a3 (by omega)).mono ?_
      rintro e w' ⟨g, T, rfl, hown, hth, hb1⟩
      exact ⟨_, len, len, 0, vals T 0 len, rfl, Row.of_own hown, .inl ⟨⟨rfl, a1, a2, a3⟩, .inr ⟨Nat.le_of_not_lt hf, rfl, T, rfl, hth⟩⟩, hb1⟩
  · refine (Fill_arg A B len cap lb cb n w (by omega) (by omega) (by omega)).mono ?_
    rintro e w' ⟨rfl, rfl⟩
    exact ⟨none, 0, 0, 1, [], rfl, Row.nil _ _, .inr ⟨hp, rfl, rfl⟩, Below.refl _ _⟩
theorem RefFill_any (cb : Nat) (n : Int) (h : RowIn w A len cap l) (hb : BRow w B lb th) (hl : len ≤ 24) (hlb : lb ≤ 24) :
    Calls Try.prog 29 #[.slice A len cap, .slice B lb cb, .int .i64 n] w fun e w' =>
      ∃ p t c er z, e = .returned (.tuple #[.slice p t c, .int .i64 er]) ∧ Row w' p t z ∧ Hid (FSpec len lb l th n er z) ∧ Below w.heap.size w w' := by
  by_cases hp : len = lb ∧ 1 ≤ n ∧ n ≤ len ∧ len ≤ 255
  · obtain ⟨rfl, a1, a2, a3⟩ := hp
    obtain ⟨m, rfl⟩ := Int.eq_ofNat_of_zero_le (show 0 ≤ n by omega)
    refine (RefFill_main A B len cap cb m l th w h.row hb (by omega) (by omega) a3).mono ?_
    rintro e w' ⟨⟨hf, rfl⟩ | ⟨hf, g, c, T, rfl, hown, hth⟩, hb1⟩
    · exact ⟨none, 0, 0, 52, [], rfl, Row.nil _ _, .inl ⟨⟨rfl, a1, a2, a3⟩, .inl ⟨hf, rfl, rfl⟩⟩, hb1⟩
    · exact ⟨_, len, c, 0, vals T 0 len, rfl, Row.of_own hown, .inl ⟨⟨rfl, a1, a2, a3⟩, .inr ⟨Nat.le_of_eq hf.symm, rfl, T, rfl, hth⟩⟩, hb1⟩
  · refine (RefFill_arg A B len cap lb cb n w (by omega) (by omega) (by omega)).mono ?_
    rintro e w' ⟨rfl, rfl⟩
    exact ⟨none, 0, 0, 1, [], rfl, Row.nil _ _, .inr ⟨hp, rfl, rfl⟩, Below.refl _ _⟩
theorem Same_f {p p' : Option Addr} {t t' c c' : Nat} {z z' : List F} {n er er' : Int} (ha : Row w p t z) (hb : Row w p' t' z') (h : Hid (FSpec len lb l th n er z)) (h' : Hid (FSpec len lb l th n er' z')) :
    Calls Try.prog 19 #[.slice p t c, .slice p' t' c'] w fun e w' => e = .returned (.bool true) ∧ ∃ q, w' = w.drewN q := by
  obtain ⟨_, rfl⟩ := FSpec.unique h.out h'.out
  have e : t = t' := by rw [← ha.len, hb.len]
  subst e
  exact Same_c _ _ _ _ _ _ _ w ha hb rfl
/-- what m bytes and the values after them tell, against the row -/
theorem own_decide {m : Nat} {T : List F} (ht : Tells m (l.take m) T) (hl : l.length = len) (hm : m ≤ len) : decide (vals T 0 len = l) = decide (vals T m (len - m) = l.drop m) := by
  have e1 : vals T 0 len = l.take m ++ vals T m (len - m) := by
    have := vals_append T 0 m (len - m)
    rw [Nat.zero_add, show m + (len - m) = len by omega] at this
    rw [← this, ht.vals_eq (by rw [List.length_take, hl]; omega)]
  rw [e1]
  congr 1
  refine propext ⟨fun h => ?_, fun h => by rw [h, List.take_append_drop]⟩
  have h2 := congrArg (List.drop m) h
  rw [List.drop_left' (by rw [List.length_take, hl]; omega)] at h2
  exact h2
theorem Of_n (A : Option Addr) (n ca k N : Nat) (hN : n + k = N) (l : List F) (w : World) (h : Row w A n l) (hn : n ≤ 256) (hk : N ≤ 65536) :
    Calls Try.prog 27 #[.slice A n ca, .int .i64 k] w fun e w' => ∃ g c T, e = .returned (.slice (some ⟨g, 0, none⟩) N c) ∧ w'.ownsRow w.heap.size 5 1 (.slice (some ⟨g, 0, none⟩) N c) N (cs (vals T 0 N)) ∧ Tells n l T ∧ Below w.heap.size w w' := by
  subst hN
  exact Of_c A n ca k l w h hn hk
theorem Is_b (m : Nat) (h : RowIn w A len cap l) (h1 : 1 ≤ m) (h2 : m ≤ len) (h3 : len ≤ 255) {T : List F} (ht : Hid (Tells m (l.take m) T)) :
    Calls Try.prog 32 #[.slice A len cap, .int .i64 m] w fun e w' => ∃ b, e = .returned (.bool b) ∧ Hid (decide (vals T 0 len = l) = b) ∧ Below w.heap.size w w' := by
  refine (Is_yes A len cap m l w h h1 h2 h3).mono ?_
  rintro e w' ⟨T', rfl, ht', hb⟩
  obtain rfl : T' = T := Tells.unique (by omega) ht' ht.out
  exact ⟨_, rfl, own_decide ht' h.row.len h2, hb⟩
theorem Same_b {p p' : Option Addr} {t c c' : Nat} {z z' : List F} {b : Bool} (ha : Row w p t z) (hb : Row w p' t z') (h : Hid (decide (z = z') = b)) :
    Calls Try.prog 19 #[.slice p t c, .slice p' t c'] w fun e w' => e = .returned (.bool b) ∧ ∃ q, w' = w.drewN q := by
  rw [← h.out]
  exact Same_d p p' t c c' z z' w ha hb
end
end Go.Proofs.Ytciljflnhleocaa
