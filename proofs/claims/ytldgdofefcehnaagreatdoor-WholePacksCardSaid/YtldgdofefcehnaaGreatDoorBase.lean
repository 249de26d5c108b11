/-
  BYTES' PRODUCTS ON NUMBERS BELOW 256, and the tables of them that the kernel reckons once. No conditions.
  THE FIELD OF BYTES, WITHOUT ANY PROGRAM: sums, products, powers, inverses, and their laws. No conditions.
  ROWS OF BYTES IN MEMORY: what a slice of bytes reads as, and how long that lasts. No conditions.
  POLYNOMIALS OVER THE FIELD OF BYTES, WITHOUT ANY PROGRAM: rows of coefficients, the lowest one first. No conditions.
  WHAT EACH PROOF's FRAME TAKES: the program's own knob, how memory is laid out, and rows of bytes that come in. No conditions.
  WHAT MOST TEXTS SHARE: rows of bytes that are laid, copied, held against each other; blocks; bytes as strings. No conditions.
  BLOCKS THAT ARE TOLD BY THEIR PLACES, AND WHAT STAYS AS IT WAS BUT BETWEEN TWO BLOCKS. No conditions.
  ROWS, AND ONE BLOCK THAT IS WRITTEN: what stays; a slice of a row. No conditions.
  NUMBERS AND ROWS OF NUMBERS THAT COME IN, bits of numbers. No conditions.
  ROWS OF INTS HELD AGAINST EACH OTHER; A NUMBER HELD WITHIN BOUNDS. No conditions.
  append OF A ROW OF BYTES, none too, onto a row that a call owns: where the new row lies. No conditions.
-/
import Derived.KernelRfl
import Derived.WalkKit
import Derived.Calls
import Derived.Below
import Derived.Lib.Hide
import Derived.Laws.OwnMore
import Derived.Deep.Draws
import Derived.Deep.AppendLies
import Derived.OwnWalk
import Derived.Test.YtldgdofefcehnaaGreatDoorChecked
import Derived.ProofKit
import Derived.OpenShut
import Derived.ShutString
import Derived.ChangeOld
import Derived.Test.YtldgdofefcehnaaGreatDoorProg
import Derived.Lib.SliceRun
import Derived.Laws.BitsAllLaws
import Derived.Laws.IdiomStrings
import Derived.Laws.ResultCell
import Derived.Laws.CopyOwn
import Derived.Laws.AppendOwnNone
import Derived.Deep.WholeRow
import Derived.Deep.QuietTactic
import Derived.Deep.RegionWith
import Derived.Deep.RegionHeld3
import Derived.Deep.Heap
import Derived.BigQuiet
import Derived.Deep.Matrix
import Derived.Deep.Upon
import Derived.Lib.AppendZeros
namespace Go.Proofs.YtldgdofefcehnaaGreatDoor
section
def txN (a : Nat) : Nat := (a * 2 % 256) ^^^ (29 * (a / 128))
def selN (b a : Nat) : Nat := if b % 2 = 1 then a else 0
def mulN : Nat → Nat → Nat → Nat → Nat
 | 0, p, _, _ => p
 | k + 1, p, a, b => mulN k (p ^^^ selN b a) (txN a) (b / 2)
theorem txN_lt (a : Nat) (h : a < 256) : txN a < 256 := by
 unfold txN
 exact Nat.xor_lt_two_pow (n := 8) (by omega) (by omega)
theorem selN_lt (b a : Nat) (h : a < 256) : selN b a < 256 := by unfold selN; split <;> omega
theorem mulN_lt (k p a b : Nat) (hp : p < 256) (ha : a < 256) : mulN k p a b < 256 := by
 induction k generalizing p a b with
 | zero => exact hp
 | succ k ih => exact ih _ _ _ (Nat.xor_lt_two_pow (n := 8) hp (selN_lt b a ha)) (txN_lt a ha)
def allLt : Nat → (Nat → Bool) → Bool
 | 0, _ => true
 | k + 1, f => f k && allLt k f
theorem allLt_at {n : Nat} {f : Nat → Bool} (h : allLt n f = true) {k : Nat} (hk : k < n) : f k = true := by
 induction n with
 | zero => omega
 | succ n ih =>
  simp only [allLt, Bool.and_eq_true] at h
  rcases Nat.lt_or_ge k n with hlt | hge
  ·exact ih h.2 hlt
  ·have : k = n := by omega
   subst this
   exact h.1
theorem xor_lt {a b : Nat} (ha : a < 256) (hb : b < 256) : a ^^^ b < 256 := Nat.xor_lt_two_pow (n := 8) ha hb
theorem low_all : allLt 256 (fun b => allLt 8 fun n => Nat.blt b (2 ^ n) || !Nat.blt b (2 ^ (n + 1)) || Nat.blt (b ^^^ 2 ^ n) (2 ^ n)) = true := by decide +kernel
theorem lin_ext (f g : Nat → Nat) (hf : ∀ x y, x < 256 → y < 256 → f (x ^^^ y) = f x ^^^ f y) (hg : ∀ x y, x < 256 → y < 256 → g (x ^^^ y) = g x ^^^ g y)
  (h0 : f 0 = g 0) (h : ∀ i, i < 8 → f (2 ^ i) = g (2 ^ i)) (b : Nat) (hb : b < 256) : f b = g b := by
 have key : ∀ n, n ≤ 8 → ∀ b, b < 2 ^ n → f b = g b := by
  intro n
  induction n with
  | zero =>
   intro _ b hb
   have : b = 0 := by simp at hb; omega
   subst this; exact h0
  | succ n ih =>
   intro hn b hb
   rcases Nat.lt_or_ge b (2 ^ n) with hl | hl
   ·exact ih (by omega) b hl
   ·have h256 : 2 ^ (n + 1) ≤ 2 ^ 8 := Nat.pow_le_pow_right (by omega) hn
    have h255 : 2 ^ n < 2 ^ 8 := Nat.pow_lt_pow_right (by omega) (by omega)
    have hb' : b < 256 := by simp at h256; omega
    have hc := allLt_at (allLt_at low_all hb') (show n < 8 by omega)
    have hc' : b ^^^ 2 ^ n < 2 ^ n := by
     simp only [Bool.or_eq_true, Nat.blt_eq, Bool.not_eq_true', ← Bool.not_eq_true] at hc
     rcases hc with (h1 | h1) | h1
     ·omega
     ·exact absurd hb h1
     ·exact h1
    have e : b = (b ^^^ 2 ^ n) ^^^ 2 ^ n := by rw [Nat.xor_assoc, Nat.xor_self, Nat.xor_zero]
    have h1 : b ^^^ 2 ^ n < 256 := by simp at h255; omega
    have h2 : 2 ^ n < 256 := by simpa using h255
    rw [e, hf _ _ h1 h2, hg _ _ h1 h2, ih (by omega) _ hc', h n (by omega)]
 exact key 8 (Nat.le_refl _) b (by simpa using hb)
theorem tx_add_all : allLt 256 (fun a => allLt 256 fun b => Nat.beq (txN (a ^^^ b)) (txN a ^^^ txN b)) = true := by decide +kernel
theorem txN_add {a b : Nat} (ha : a < 256) (hb : b < 256) : txN (a ^^^ b) = txN a ^^^ txN b := Nat.eq_of_beq_eq_true (allLt_at (allLt_at tx_add_all ha) hb)
theorem mul_comm_all : allLt 256 (fun a => allLt 8 fun i => Nat.beq (mulN 8 0 a (2 ^ i)) (mulN 8 0 (2 ^ i) a)) = true := by decide +kernel
def expN : Nat → Nat
 | 0 => 1
 | n + 1 => txN (expN n)
end
section
def F : Type := UInt8
def F.n (x : F) : Nat := UInt8.toNat x
def ofN (k : Nat) : F := UInt8.ofNat k
def toB (x : F) : UInt8 := x
instance : DecidableEq F := inferInstanceAs (DecidableEq UInt8)
instance : Inhabited F := ⟨ofN 0⟩
instance : OfNat F 0 := ⟨ofN 0⟩
instance : OfNat F 1 := ⟨ofN 1⟩
theorem F.lt (x : F) : x.n < 256 := UInt8.toNat_lt x
theorem F.ext {x y : F} (h : x.n = y.n) : x = y := UInt8.toNat_inj.1 h
theorem ofN_n (k : Nat) (h : k < 256) : (ofN k).n = k := by
 show (UInt8.ofNat k).toNat = k
 simp
 omega
theorem n_ofN (x : F) : ofN x.n = x := F.ext (ofN_n _ x.lt)
theorem n_zero : (0 : F).n = 0 := rfl
theorem txN_zero : txN 0 = 0 := rfl
theorem selN_add (b x y : Nat) : selN b (x ^^^ y) = selN b x ^^^ selN b y := by unfold selN; split <;> simp
theorem selN_bit (b c x : Nat) : selN (b ^^^ c) x = selN b x ^^^ selN c x := by
 unfold selN
 have h : (b ^^^ c) % 2 = b % 2 ^^^ c % 2 := Nat.xor_mod_two_pow (n := 1)
 rw [h]
 rcases Nat.mod_two_eq_zero_or_one b with hb | hb <;> rcases Nat.mod_two_eq_zero_or_one c with hc | hc <;> simp [hb, hc]
theorem txN_sel (b x : Nat) : txN (selN b x) = selN b (txN x) := by unfold selN; split <;> simp [txN_zero]
theorem xor4 (a b c d : Nat) : (a ^^^ b) ^^^ (c ^^^ d) = (a ^^^ c) ^^^ (b ^^^ d) := by
 rw [Nat.xor_assoc, Nat.xor_assoc, ← Nat.xor_assoc b c d, Nat.xor_comm b c, Nat.xor_assoc c b d]
theorem mulN_add_left (k p q a b c : Nat) (ha : a < 256) (hb : b < 256) : mulN k (p ^^^ q) (a ^^^ b) c = mulN k p a c ^^^ mulN k q b c := by
 induction k generalizing p q a b c with
 | zero => rfl
 | succ k ih =>
  show mulN k ((p ^^^ q) ^^^ selN c (a ^^^ b)) (txN (a ^^^ b)) (c / 2) = _
  rw [selN_add, xor4, txN_add ha hb]
  exact ih _ _ _ _ _ (txN_lt a ha) (txN_lt b hb)
theorem half_xor (b c : Nat) : (b ^^^ c) / 2 = b / 2 ^^^ c / 2 := by
 exact Nat.xor_div_two
theorem mulN_add_right (k p q a b c : Nat) : mulN k (p ^^^ q) a (b ^^^ c) = mulN k p a b ^^^ mulN k q a c := by
 induction k generalizing p q a b c with
 | zero => rfl
 | succ k ih =>
  show mulN k ((p ^^^ q) ^^^ selN (b ^^^ c) a) (txN a) ((b ^^^ c) / 2) = _
  rw [selN_bit, xor4, half_xor]
  exact ih _ _ _ _ _
theorem mulN_tx (k p a b : Nat) (hp : p < 256) (ha : a < 256) : mulN k (txN p) (txN a) b = txN (mulN k p a b) := by
 induction k generalizing p a b with
 | zero => rfl
 | succ k ih =>
  show mulN k (txN p ^^^ selN b (txN a)) (txN (txN a)) (b / 2) = txN (mulN k (p ^^^ selN b a) (txN a) (b / 2))
  rw [← ih _ _ _ (xor_lt hp (selN_lt b a ha)) (txN_lt a ha), txN_add hp (selN_lt b a ha), txN_sel]
theorem mulN_comm {a b : Nat} (ha : a < 256) (hb : b < 256) : mulN 8 0 a b = mulN 8 0 b a := by
 refine lin_ext (fun b => mulN 8 0 a b) (fun b => mulN 8 0 b a) (fun x y _ _ => mulN_add_right 8 0 0 a x y) (fun x y hx hy => mulN_add_left 8 0 0 x y a hx hy) ?_ ?_ b hb
 ·show mulN 8 0 a 0 = mulN 8 0 0 a
  have h : ∀ k, mulN k 0 0 a = 0 := by
   intro k
   induction k generalizing a with
   | zero => rfl
   | succ k ih =>
    have h : mulN (k + 1) 0 0 a = mulN k 0 0 (a / 2) := by simp [mulN, selN, txN_zero]
    rw [h]
    exact ih (by omega)
  rw [h]
  simp [mulN, selN]
 ·intro i hi
  exact Nat.eq_of_beq_eq_true (allLt_at (allLt_at mul_comm_all ha) hi)
theorem mulN_zero (k a : Nat) : mulN k 0 a 0 = 0 := by
 induction k generalizing a with
 | zero => rfl
 | succ k ih =>
  have h : mulN (k + 1) 0 a 0 = mulN k 0 (txN a) 0 := by simp [mulN, selN]
  rw [h, ih]
theorem mulN_assoc (k a p b c : Nat) (ha : a < 256) (hp : p < 256) (hb : b < 256) : mulN k (mulN 8 0 a p) (mulN 8 0 a b) c = mulN 8 0 a (mulN k p b c) := by
 induction k generalizing p b c with
 | zero => rfl
 | succ k ih =>
  show mulN k (mulN 8 0 a p ^^^ selN c (mulN 8 0 a b)) (txN (mulN 8 0 a b)) (c / 2) = mulN 8 0 a (mulN k (p ^^^ selN c b) (txN b) (c / 2))
  rw [← ih _ _ _ (xor_lt hp (selN_lt c b hb)) (txN_lt b hb)]
  have h1 : mulN 8 0 a (p ^^^ selN c b) = mulN 8 0 a p ^^^ mulN 8 0 a (selN c b) := mulN_add_right 8 0 0 a p (selN c b)
  have h2 : mulN 8 0 a (selN c b) = selN c (mulN 8 0 a b) := by unfold selN; split <;> simp [mulN_zero]
  have h3 : txN (mulN 8 0 a b) = mulN 8 0 a (txN b) := by
   rw [mulN_comm ha hb, mulN_comm ha (txN_lt b hb), ← mulN_tx 8 0 b a (by omega) hb]
   rfl
  rw [h1, h2, h3]
instance : Add F := ⟨fun a b => ofN (a.n ^^^ b.n)⟩
instance : Mul F := ⟨fun a b => ofN (mulN 8 0 a.n b.n)⟩
theorem add_n (a b : F) : (a + b).n = a.n ^^^ b.n := ofN_n _ (xor_lt a.lt b.lt)
theorem mul_n (a b : F) : (a * b).n = mulN 8 0 a.n b.n := ofN_n _ (mulN_lt 8 0 _ _ (by omega) a.lt)
theorem add_comm (a b : F) : a + b = b + a := F.ext (by rw [add_n, add_n, Nat.xor_comm])
theorem add_assoc (a b c : F) : a + b + c = a + (b + c) := F.ext (by rw [add_n, add_n, add_n, add_n, Nat.xor_assoc])
theorem mul_comm (a b : F) : a * b = b * a := F.ext (by rw [mul_n, mul_n, mulN_comm a.lt b.lt])
theorem mul_assoc (a b c : F) : a * b * c = a * (b * c) := F.ext (by
 rw [mul_n, mul_n, mul_n, mul_n, ← mulN_assoc 8 a.n 0 b.n c.n a.lt (by omega) b.lt, mulN_zero])
theorem mul_zero (a : F) : a * 0 = 0 := F.ext (by rw [mul_n, n_zero, mulN_zero])
instance : Std.Associative (α := F) (· + ·) := ⟨add_assoc⟩
instance : Std.Commutative (α := F) (· + ·) := ⟨add_comm⟩
instance : Std.Associative (α := F) (· * ·) := ⟨mul_assoc⟩
instance : Std.Commutative (α := F) (· * ·) := ⟨mul_comm⟩
def pw (a : F) : Nat → F
 | 0 => 1
 | k + 1 => pw a k * a
theorem pw_succ (a : F) (k : Nat) : pw a (k + 1) = pw a k * a := rfl
theorem zero_pw (k : Nat) (h : 0 < k) : pw 0 k = 0 := by
 cases k with
 | zero => omega
 | succ k => rw [pw_succ, mul_zero]
def inv (a : F) : F := pw a 254
instance : OfNat F 2 := ⟨ofN 2⟩
end
section
open Go.RowKit
def gt (l : List F) (i : Nat) : F := l.getD i 0
def cs (l : List F) : List Value := l.map fun x => .int .u8 x.n
theorem gt_lt {l : List F} {i : Nat} (h : i < l.length) : gt l i = l[i] := by simp [gt, h]
theorem gt_ge {l : List F} {i : Nat} (h : l.length ≤ i) : gt l i = 0 := by simp [gt, h]
theorem cs_length (l : List F) : (cs l).length = l.length := by simp [cs]
theorem cs_at {l : List F} {i : Nat} (h : i < l.length) : (cs l)[i]? = some (.int .u8 (gt l i).n) := by
 rw [gt_lt h]; simp [cs, h]
theorem cs_append (l m : List F) : cs (l ++ m) = cs l ++ cs m := by simp [cs]
theorem cs_one (l : List F) : ∀ u ∈ cs l, u.oneCell' = true := by
 intro u hu
 simp only [cs, List.mem_map] at hu
 obtain ⟨x, _, rfl⟩ := hu
 rfl
def Row (w : World) (A : Option Addr) (n : Nat) (l : List F) : Prop :=
 l.length = n ∧ n ≤ maxLen ∧ (0 < n → ∃ b off, A = some ⟨b, off, none⟩ ∧ b < w.heap.size ∧ ∀ i, i < n → w.cell? ⟨b, off + i, none⟩ = some (.int .u8 (gt l i).n))
section
variable {w w' : World} {A : Option Addr} {n : Nat} {l : List F}
theorem Row.len (h : Row w A n l) : l.length = n := h.1
theorem Row.max (h : Row w A n l) : n ≤ 9223372036854775807 := by have := h.2.1; unfold maxLen at this; exact this
theorem Row.nil (w : World) (A : Option Addr) : Row w A 0 [] := ⟨rfl, by unfold maxLen; omega, fun h => absurd h (by omega)⟩
theorem Row.at_ (h : Row w A n l) {k : Nat} (hk : k < n) : ∃ b off, A = some ⟨b, off, none⟩ ∧ b < w.heap.size ∧ w.cell? ⟨b, off + k, none⟩ = some (.int .u8 (gt l k).n) := by
 obtain ⟨b, off, e, hb, hc⟩ := h.2.2 (by omega)
 exact ⟨b, off, e, hb, hc k hk⟩
theorem Row.keep (h : Row w A n l) (hs : w.heap.size ≤ w'.heap.size) (hk : ∀ p : Addr, p.block < w.heap.size → w'.cell? p = w.cell? p) : Row w' A n l :=
 ⟨h.1, h.2.1, fun hn => by
  obtain ⟨b, off, e, hb, hc⟩ := h.2.2 hn
  exact ⟨b, off, e, by omega, fun i hi => (hk ⟨b, off + i, none⟩ hb).trans (hc i hi)⟩⟩
theorem Row.below (h : Row w A n l) (hb : Below w.heap.size w w') : Row w' A n l := h.keep hb.size fun _ hp => hb.cell hp
theorem Row.drewN (h : Row w A n l) (k : Nat) : Row (w.drewN k) A n l := h
theorem Row.alloc (h : Row w A n l) (o : Obj) : Row (w.alloc o) A n l := h.keep (by simp) fun p hp => World.cell?_alloc_lt w o p hp
theorem Row.of_own {base c : Nat} {e : TypeId} (h : w.ownsRow base e 1 (.slice A n c) n (cs l)) : Row w A n l := by
 have hl : l.length = n := by have := h.1; rw [cs_length] at this; omega
 rcases h.2 with ⟨hv, h0⟩ | ⟨g, cap, cur, hv, hb, hg, hnc, hcm, hsz, ht⟩
 ·subst h0
  exact ⟨hl, by unfold maxLen; omega, fun hn => absurd hn (by omega)⟩
 ·injection hv with hA _ hc
  subst hA hc
  refine ⟨hl, Nat.le_trans hnc hcm, fun hn => ⟨g, 0, rfl, (h.lt g rfl).2, fun i hi => ?_⟩⟩
  rw [Nat.zero_add, h.cellAt i (by omega), cs_at (by omega)]
theorem Row.take (h : Row w A n l) {k : Nat} (hk : k ≤ n) : Row w A k (l.take k) := by
 refine ⟨by have := h.1; simp; omega, by have := h.2.1; omega, fun hk0 => ?_⟩
 obtain ⟨b, off, e, hb, hc⟩ := h.2.2 (by omega)
 refine ⟨b, off, e, hb, fun i hi => ?_⟩
 rw [hc i (by omega)]
 have h1 := h.1
 rw [gt_lt (by omega), gt_lt (by simp; omega)]
 simp
end
theorem below_drewN {B : Nat} {a w : World} (h : Below B a w) (n : Nat) : Below B a (w.drewN n) := ⟨h.os, h.tape, h.output, h.size, h.block⟩
end
section
set_option linter.unusedVariables false
theorem ext_gt {l m : List F} (hl : l.length = m.length) (h : ∀ i, i < l.length → gt l i = gt m i) : l = m := by
 apply List.ext_getElem hl
 intro i h1 h2
 have := h i h1
 rwa [gt_lt h1, gt_lt h2] at this
theorem gt_take (l : List F) (k i : Nat) : gt (l.take k) i = if i < k then gt l i else 0 := by
 unfold gt
 by_cases h : i < k <;> simp [List.getD, List.getElem?_take, h]
theorem gt_drop (l : List F) (k i : Nat) : gt (l.drop k) i = gt l (k + i) := by
 unfold gt
 simp [List.getD, List.getElem?_drop]
theorem gt_append (l m : List F) (i : Nat) : gt (l ++ m) i = if i < l.length then gt l i else gt m (i - l.length) := by
 unfold gt
 by_cases h : i < l.length <;> simp [List.getD, List.getElem?_append, h]
theorem gt_set (l : List F) (k i : Nat) (x : F) (hk : k < l.length) : gt (l.set k x) i = if i = k then x else gt l i := by
 unfold gt
 by_cases h : i = k
 ·subst h; simp [List.getD, hk]
 ·simp [List.getD, h, Ne.symm h]
def tl (l : List F) : Nat → Nat
 | 0 => 0
 | k + 1 => if gt l k = 0 then tl l k else k + 1
def sm : Nat → (Nat → F) → F
 | 0, _ => 0
 | n + 1, f => sm n f + f n
theorem sm_congr {n : Nat} {f g : Nat → F} (h : ∀ i, i < n → f i = g i) : sm n f = sm n g := by
 induction n with
 | zero => rfl
 | succ n ih => unfold sm; rw [ih fun i hi => h i (by omega), h n (by omega)]
end
section
open Go.ChangeShapes Go.WideShapes Go.ChangeAt Go.RowKit
theorem own : ownKnob Tryz.prog.godebug = none := by kernel_rfl
theorem laidOut : laidOutB Tryz.prog = true := by kernel_rfl
theorem byte_of {a : Int} (h : (Lit.int .u8 a).wf = true) : ∃ x : F, a = (x.n : Int) := by
 have h1 : 0 ≤ a ∧ a < 256 := by
  simp [Lit.wf, IntKind.min, IntKind.max, IntKind.bits, IntKind.signed] at h
  omega
 refine ⟨ofN a.toNat, ?_⟩
 rw [ofN_n _ (by omega)]
 omega
theorem bytes_of {zs : List Int} (h : ∀ n ∈ zs, (Lit.int .u8 n).wf = true) : ∃ l : List F, zs = l.map fun x => (x.n : Int) := by
 induction zs with
 | nil => exact ⟨[], rfl⟩
 | cons z zs ih =>
  obtain ⟨l, hl⟩ := ih fun n hn => h n (List.mem_cons_of_mem _ hn)
  obtain ⟨x, hx⟩ := byte_of (h z List.mem_cons_self)
  exact ⟨x :: l, by rw [hl, hx]; rfl⟩
structure RowIn (w : World) (A : Option Addr) (len cap : Nat) (l : List F) : Prop where
 row : Row w A len l
 le : len ≤ cap
 max : cap ≤ maxLen
theorem RowIn.below {w w' : World} {A : Option Addr} {n c : Nat} {l : List F} (h : RowIn w A n c l) (hb : Below w.heap.size w w') : RowIn w' A n c l := ⟨h.row.below hb, h.le, h.max⟩
theorem RowIn.drewN {w : World} {A : Option Addr} {n c : Nat} {l : List F} (h : RowIn w A n c l) (q : Nat) : RowIn (w.drewN q) A n c l := ⟨h.row.drewN q, h.le, h.max⟩
theorem own_below {w w' : World} {base n : Nat} {e : TypeId} {v : Value} {xs : List Value} (h : w.ownsRow base e 1 v n xs) (hb : Below w.heap.size w w') : w'.ownsRow base e 1 v n xs :=
 h.kept (row := none) ⟨hb.os, hb.tape, hb.output, hb.size, fun k hk _ => hb.block k hk⟩ (by cases hv : v.ownBlock <;> simp)
theorem RowIn.nil_ (w : World) : RowIn w none 0 0 [] := ⟨Row.nil w none, Nat.le_refl _, by unfold maxLen; omega⟩
theorem RowIn.ofCells {w : World} {x : Addr} {len cap : Nat} {zs : List Int} (hl : len ≤ cap) (hm : cap ≤ maxLen) (hz : zs.length = cap)
  (hcell : ∀ i, i < zs.length → w.cell? (x.add i) = some (.int .u8 (zs.getD i 0))) (hw : ∀ n ∈ zs, (Lit.int .u8 n).wf = true) : ∃ l, RowIn w (some x) len cap l := by
 obtain ⟨l, rfl⟩ := bytes_of hw
 rw [List.length_map] at hz hcell
 refine ⟨l.take len, ⟨by simp; omega, by omega, fun hn => ?_⟩, hl, hm⟩
 obtain ⟨b, off, spot⟩ := x
 have h0 := hcell 0 (by omega)
 have hspot : spot = none := by simpa [Addr.add] using World.cell?_spot h0
 subst hspot
 refine ⟨b, off, rfl, World.block_lt_of_cell? w _ h0, fun i hi => ?_⟩
 have h1 := hcell i (by omega)
 have e : (⟨b, off, none⟩ : Addr).add i = ⟨b, off + i, none⟩ := by unfold Addr.add; split <;> simp_all
 rw [e] at h1
 rw [h1, gt_lt (by simp; omega)]
 simp [List.getD, show i < l.length by omega]
end
section
open Go.RowKit
set_option maxRecDepth 100000
set_option linter.unusedVariables false
theorem ret_i64 {a b : Int} (h : a = b) : Ending.returned (.int .i64 a) = .returned (.int .i64 b) := by rw [h]
theorem n_beq2 (a b : F) : ((a.n : Int) == (b.n : Int)) = decide (a = b) := by
 by_cases h : a = b
 ·subst h; simp
 ·have h1 : a.n ≠ b.n := fun e => h (F.ext e)
  rw [decide_eq_false h, beq_eq_false_iff_ne]
  omega
theorem val_i64 {a b : Int} (h : a = b) : Value.int .i64 a = .int .i64 b := by rw [h]
def part (l : List F) (k : Nat) : List F := l.take k ++ List.replicate (l.length - k) 0
theorem part_zero (l : List F) : part l 0 = List.replicate l.length 0 := by simp [part]
theorem part_all (l : List F) : part l l.length = l := by simp [part]
theorem part_length (l : List F) (k : Nat) : (part l k).length = l.length := by simp [part]; omega
theorem part_set (l : List F) (k : Nat) (h : k < l.length) : (part l k).set k (gt l k) = part l (k + 1) := by
 have h1 : (l.take k).length = k := by simp; omega
 unfold part
 rw [List.set_append_right _ _ (by omega), h1, Nat.sub_self, show l.length - k = (l.length - (k + 1)) + 1 by omega, List.replicate_succ, List.set_cons_zero, gt_lt h,
  List.take_succ_eq_append_getElem h, List.append_assoc]
 rfl
theorem cs_set (l : List F) (k : Nat) (x : F) : (cs l).set k (.int .u8 x.n) = cs (l.set k x) := by simp [cs, List.map_set]
theorem cs_replicate (n : Nat) : cs (List.replicate n 0) = List.replicate n (.int .u8 0) := by simp [cs, n_zero]
theorem info_u8 : (Tryz.prog.info? 5).map (fun i => (i.zero, i.size, i.bytes)) = some (some (.int .u8 0), 1, 1) := by kernel_rfl
def Blk (w : World) (g : Nat) (t : TypeId) (C : Array Value) : Prop := w.heap[g]? = some (.cells C t (0, 0))
section
variable {w w' : World} {g : Nat} {t : TypeId} {C : Array Value}
theorem Blk.cell (h : Blk w g t C) (i : Nat) : w.cell? ⟨g, i, none⟩ = C[i]? := cell_of_row w g i C t (0, 0) h
theorem Blk.frozen (h : Blk w g t C) (i : Nat) : w.frozen? ⟨g, i, none⟩ = false := by
 unfold Blk at h
 simp [World.frozen?, h]
theorem Blk.new (w : World) (t : TypeId) (C : Array Value) : Blk (w.alloc (.cells C t)) w.heap.size t C := heap_alloc_new w _
theorem Blk.set_ (h : Blk w g t C) (i : Nat) (u : Value) : Blk (w.setCell ⟨g, i, none⟩ u) g t (C.setIfInBounds i u) := by
 unfold Blk at h ⊢
 simp [World.setCell, Array.getElem?_modify, h]
theorem Blk.below (h : Blk w g t C) (hg : g < w.heap.size) (hb : Below w.heap.size w w') : Blk w' g t C := by
 unfold Blk at h ⊢
 rw [hb.block g hg]
 exact h
end
theorem Blk.setRow {w : World} {g : Nat} {t : TypeId} {C : Array Value} (h : Blk w g t C) (C' : Array Value) : Blk (w.setRow g C') g t C' := by
 unfold Blk at h ⊢
 simp [World.setRow, Array.getElem?_modify, h]
theorem Blk.kept {w w' : World} {g : Nat} {t : TypeId} {C : Array Value} (h : Blk w g t C) {row : Option Nat} (hg : w.grownBy w' row) (hne : g < w.heap.size ∧ row ≠ some g) : Blk w' g t C := by
 unfold Blk at h ⊢
 rw [hg.block g hne.1 (fun e => hne.2 e.symm)]
 exact h
theorem Blk.setOther {w : World} {g : Nat} {t : TypeId} {C : Array Value} (h : Blk w g t C) {a : Addr} (hne : g ≠ a.block) (v : Value) : Blk (w.setCell a v) g t C := by
 unfold Blk at h ⊢
 rw [Go.Deep.blk_setCell_other _ _ _ _ hne]
 exact h
def strB (l : List F) : ByteArray := ⟨(l.map toB).toArray⟩
theorem run_row_string {w : World} {A : Option Addr} {n : Nat} {l : List F} (c : Nat) (h : Row w A n l) :
  (convert 22 9 (.slice A n c)).run Tryz.prog w = .ok (.string (strB l)) w := by
 cases A with
 | none =>
  have hn : n = 0 := by
   rcases Nat.eq_zero_or_pos n with h0 | h0
   ·exact h0
   ·obtain ⟨_, _, e, _⟩ := h.at_ h0
    cases e
  subst hn
  have hl : l = [] := List.eq_nil_of_length_eq_zero h.len
  subst hl
  rw [run_convert_bytes_string w _ _ _ none 0 c Tryz.underlying22 Tryz.underlying5 Tryz.underlying9]
  simp [Conv.bytesToString, strB, Sem.run_pure, ByteArray.empty, ByteArray.emptyWithCapacity]
  rfl
 | some ad =>
  have hl : n = (l.map toB).length := by rw [List.length_map, h.len]
  rw [hl]
  refine run_convert_bytes_back w _ _ _ ad c (l.map toB) Tryz.underlying22 Tryz.underlying5 Tryz.underlying9 (fun j hj => ?_)
  rw [List.length_map] at hj
  have hjn : j < n := by have := h.len; omega
  obtain ⟨b, off, e, _, hc⟩ := h.at_ hjn
  injection e with e
  subst e
  have e2 : (⟨b, off, none⟩ : Addr).add j = ⟨b, off + j, none⟩ := by unfold Addr.add; split <;> simp_all
  rw [e2, hc, gt_lt hj]
  simp [F.n, toB]
theorem row_lit (w : World) (l : List F) (n g : Nat) (hn : n = l.length) (hg : g = w.heap.size) (hl : l.length ≤ maxLen) (C : Array Value) (hC : C = (cs l).toArray) (t : TypeId) : Row (w.alloc (.cells C t)) (some ⟨g, 0, none⟩) n l := by
 subst hn hg hC
 refine ⟨rfl, hl, fun _ => ⟨w.heap.size, 0, rfl, by simp, fun i hi => ?_⟩⟩
 have h := heap_alloc_new w (.cells (cs l).toArray t)
 rw [Nat.zero_add, cell_of_row _ _ i _ t (0, 0) h]
 simpa using cs_at hi
theorem own_shape {w : World} {base n : Nat} {e : TypeId} {v : Value} {xs : List Value} (h : w.ownsRow base e 1 v n xs) : ∃ A c, v = .slice A n c ∧ (n ≤ c ∧ c ≤ maxLen) := by
 rcases h.2 with ⟨rfl, rfl⟩ | ⟨g, cap, _, rfl, _, _, h1, h2, _⟩
 ·exact ⟨none, 0, rfl, Nat.le_refl _, by unfold maxLen; omega⟩
 ·exact ⟨_, cap, rfl, h1, h2⟩
theorem Row.none_nil {w : World} {n : Nat} {l : List F} (h : Row w none n l) : n = 0 ∧ l = [] := by
 have hn : n = 0 := by
  rcases Nat.eq_zero_or_pos n with h0 | h0
  ·exact h0
  ·obtain ⟨_, _, e, _⟩ := h.at_ h0
   cases e
 subst hn
 exact ⟨rfl, List.eq_nil_of_length_eq_zero h.len⟩
theorem Row.cells {w : World} {ad : Addr} {n : Nat} {l : List F} (h : Row w (some ad) n l) : ∀ j u, (cs l)[j]? = some u → w.cell? (ad.add j) = some u := by
 intro j u hu
 have hj : j < (cs l).length := (List.getElem?_eq_some_iff.1 hu).1
 rw [cs_length] at hj
 have hjn : j < n := by have := h.len; omega
 obtain ⟨b, off, e, _, hc⟩ := h.at_ hjn
 injection e with e
 subst e
 have e2 : (⟨b, off, none⟩ : Addr).add j = ⟨b, off + j, none⟩ := by unfold Addr.add; split <;> simp_all
 rw [cs_at hj] at hu
 rw [e2, hc]
 exact hu
set_option maxHeartbeats 400000 in
theorem Clone_c (A : Option Addr) (n c : Nat) (l : List F) (w : World) (h : Row w A n l) (hn : n ≤ 140737488355328) :
  Calls Tryz.prog 51 #[.slice A n c] w fun e w' => ∃ A' c', e = .returned (.slice A' n c') ∧ w'.ownsRow w.heap.size 5 1 (.slice A' n c') n (cs l) ∧ Below w.heap.size w w' := by
 obtain ⟨i0, hi, hz0, hz1, hz2⟩ := info_parts info_u8
 have q22 : ∀ (w : World) (a : Option Addr) (n c n' c' : Nat), (binOp .eql 22 (.slice a n c) (.slice none n' c')).run Tryz.prog w = .ok (.bool a.isNone) w := fun w a n c n' c' => Lib.run_eql_slice_nil w _ _ a n c n' c' Tryz.underlying22
 cases A with
 | none =>
  obtain ⟨rfl, rfl⟩ := h.none_nil
  go_enter Tryz.func51, Tryz.ntmps51
  go_wp2
  go_ret
  exact ⟨none, 0, rfl, World.ownsRow_nil _ _ _ _, Below.refl _ _⟩
 | some ad =>
  have hl := h.len
  have hm := h.max
  have h1 := (h.alloc (.cells #[] 5)).cells
  have HC := Lib.hid h1
  clear h1
  have HL := Lib.hid hl
  clear hl
  go_enter Tryz.func51, Tryz.ntmps51
  go_wp2_with (at_builtin; refine wpList_append_own _ rfl _ _ 22 rfl w.heap.size 5 i0 (.int .u8 0) 1 1 Tryz.underlying22 hi hz0 hz1 hz2 rfl (by decide) _ _ _ rfl (World.ownsRow_made w #[] 0 (Nat.le_refl _) (Nat.zero_le _) rfl) ad n c (cs l) rfl (by rw [cs_length, HL.out, Nat.mul_one]) HC.out (cs_one l) (by unfold maxLen; omega) (by omega) (by simp) ?_; intro v' w1 hown hgrow hnil)
  obtain ⟨A', c', hv, _⟩ := own_shape hown
  rw [Nat.zero_add] at hv
  subst hv
  go_wp2
  go_ret
  refine ⟨A', c', rfl, by simpa using hown, ?_⟩
  exact ((Below.refl _ w).alloc (Nat.le_refl _) _).grown hgrow (by simp) (fun k hk => by cases hk; exact Nat.le_refl _)
theorem own_len {w : World} {base n c : Nat} {e : TypeId} {A : Option Addr} {l : List F} (h : w.ownsRow base e 1 (.slice A n c) n (cs l)) : l.length = n := by
 have := h.1; rw [cs_length] at this; omega
theorem own_cap {w : World} {base n c : Nat} {e : TypeId} {A : Option Addr} {l : List F} (h : w.ownsRow base e 1 (.slice A n c) n (cs l)) : n ≤ c ∧ c ≤ 9223372036854775807 := by
 obtain ⟨A', c', hv, h1, h2⟩ := own_shape h
 injection hv with _ _ hc
 subst hc
 exact ⟨h1, by unfold maxLen at h2; exact h2⟩
theorem own_in {w : World} {base n c : Nat} {e : TypeId} {A : Option Addr} {l : List F} (h : w.ownsRow base e 1 (.slice A n c) n (cs l)) : RowIn w A n c l :=
 ⟨Row.of_own h, (own_cap h).1, by have := (own_cap h).2; unfold maxLen; exact this⟩
def mkF (f : Nat → F) : Nat → List F
 | 0 => []
 | k + 1 => mkF f k ++ [f k]
theorem mkF_length (f : Nat → F) (k : Nat) : (mkF f k).length = k := by
 induction k with
 | zero => rfl
 | succ k ih => simp [mkF, ih]
theorem gt_mkF (f : Nat → F) (k i : Nat) : gt (mkF f k) i = if i < k then f i else 0 := by
 induction k with
 | zero => rw [if_neg (by omega)]; rfl
 | succ k ih =>
  unfold mkF
  rw [gt_append, mkF_length, ih]
  by_cases h1 : i < k
  ·rw [if_pos h1, if_pos h1, if_pos (by omega)]
  ·rw [if_neg h1]
   by_cases h2 : i = k
   ·subst h2; rw [if_pos (by omega), Nat.sub_self]; rfl
   ·rw [if_neg (by omega), gt_ge (by simp; omega)]
theorem ret_bool {a b : Bool} (h : a = b) : Ending.returned (.bool a) = .returned (.bool b) := by rw [h]
set_option maxHeartbeats 400000 in
theorem Copy_c (A : Option Addr) (n c : Nat) (l : List F) (w : World) (h : Row w A n l) (hn : n ≤ 140737488355328) :
  Calls Tryz.prog 22 #[.slice A n c] w fun e w' => ∃ A' c', e = .returned (.slice A' n c') ∧ w'.ownsRow w.heap.size 5 1 (.slice A' n c') n (cs l) ∧ Below w.heap.size w w' := by
 obtain ⟨i0, hi, hz0, hz1, hz2⟩ := info_parts info_u8
 cases A with
 | none =>
  obtain ⟨rfl, rfl⟩ := h.none_nil
  go_enter Tryz.func22, Tryz.ntmps22
  go_wp2
  go_ret
  exact ⟨_, 0, rfl, World.ownsRow_made w #[] 0 (Nat.le_refl _) (Nat.zero_le _) rfl, (Below.refl _ _).alloc (Nat.le_refl _) _⟩
 | some ad =>
  have hl := h.len
  have hm := h.max
  have HC := Lib.hid (h.alloc (.cells #[] 5)).cells
  have HL := Lib.hid hl
  clear hl
  go_enter Tryz.func22, Tryz.ntmps22
  go_wp2_with (at_builtin; refine wpList_append_own _ rfl _ _ 22 rfl w.heap.size 5 i0 (.int .u8 0) 1 1 Tryz.underlying22 hi hz0 hz1 hz2 rfl (by decide) _ _ _ rfl (World.ownsRow_made w #[] 0 (Nat.le_refl _) (Nat.zero_le _) rfl) ad n c (cs l) rfl (by rw [cs_length, HL.out, Nat.mul_one]) HC.out (cs_one l) (by unfold maxLen; omega) (by omega) (by simp) ?_; intro v' w1 hown hgrow hnil)
  obtain ⟨A', c', hv, _⟩ := own_shape hown
  rw [Nat.zero_add] at hv
  subst hv
  go_wp2
  go_ret
  refine ⟨A', c', rfl, by simpa using hown, ?_⟩
  exact ((Below.refl _ w).alloc (Nat.le_refl _) _).grown hgrow (by simp) (fun k hk => by cases hk; exact Nat.le_refl _)
theorem take_succ_gt {l : List F} {k : Nat} (h : k < l.length) : l.take (k + 1) = l.take k ++ [gt l k] := by
 rw [gt_lt h, List.take_succ_eq_append_getElem h]
set_option maxHeartbeats 400000 in
theorem Same_c (A B : Option Addr) (n ca cb : Nat) (a b : List F) (w : World) (ha : Row w A n a) (hb : Row w B n b) (he : a = b) :
  Calls Tryz.prog 14 #[.slice A n ca, .slice B n cb] w fun e w' => e = .returned (.bool true) ∧ ∃ q, w' = w.drewN q := by
 subst he
 have hm := ha.max
 go_enter Tryz.func14, Tryz.ntmps14
 go_wp2
 go_loopw [5] (fun i wr => ∃ k q : Nat, k ≤ n ∧ i = .int .i64 k ∧ wr = w.drewN q) (fun i _ => n - (intOf i).toNat)
 case atStart => exact ⟨0, 0, by omega, rfl, rfl⟩
 case round =>
  obtain ⟨k, q, hk, rfl, rfl⟩ := hrel
  by_cases hlt : k < n
  ·obtain ⟨b1, o1, rfl, _, h1⟩ := ha.at_ hlt
   obtain ⟨b2, o2, rfl, _, h2⟩ := hb.at_ hlt
   have hkn : (k : Int) < n := by omega
   go_wp2
   go_quiet (fail)
   go_wp2
   go_roundw
   case rel => exact ⟨k + 1, _, by omega, by go_num, rfl⟩
   case measure => simp [intOf]; omega
  ·go_wp2
   go_ret
   exact ⟨rfl, q, rfl⟩
set_option maxHeartbeats 1000000 in
theorem Same_d (A B : Option Addr) (n ca cb : Nat) (a b : List F) (w : World) (ha : Row w A n a) (hb : Row w B n b) :
  Calls Tryz.prog 14 #[.slice A n ca, .slice B n cb] w fun e w' => e = .returned (.bool (decide (a = b))) ∧ ∃ q, w' = w.drewN q := by
 have hm := ha.max
 have HL := Lib.hid (And.intro ha.len hb.len)
 go_enter Tryz.func14, Tryz.ntmps14
 go_wp2
 go_loopw [5] (fun i wr => ∃ k q : Nat, k ≤ n ∧ i = .int .i64 k ∧ wr = w.drewN q ∧ Hid (∀ j, j < k → gt a j = gt b j)) (fun i _ => n - (intOf i).toNat)
 case atStart => exact ⟨0, 0, by omega, rfl, rfl, fun j hj => by omega⟩
 case round =>
  obtain ⟨k, q, hk, rfl, rfl, hs⟩ := hrel
  by_cases hlt : k < n
  ·obtain ⟨b1, o1, rfl, _, h1⟩ := ha.at_ hlt
   obtain ⟨b2, o2, rfl, _, h2⟩ := hb.at_ hlt
   have hkn : (k : Int) < n := by omega
   by_cases he : gt a k = gt b k
   ·have hne : (((gt a k).n : Int) != ((gt b k).n : Int)) = false := by rw [he]; simp
    have HE := Lib.hid he
    clear he
    go_wp2
    go_quiet (fail)
    go_wp2
    go_roundw
    case rel =>
     refine ⟨k + 1, _, by omega, by go_num, rfl, fun j hj => ?_⟩
     rcases Nat.lt_or_ge j k with h | h
     ·exact hs.out j h
     ·rw [show j = k by omega]; exact HE.out
    case measure => simp [intOf]; omega
   ·have hne : (((gt a k).n : Int) != ((gt b k).n : Int)) = true := by
     rw [bne_iff_ne]
     exact fun e => he (F.ext (by omega))
    have HE : Hid (decide (a = b) = false) := by
     unfold Hid
     rw [decide_eq_false_iff_not]
     intro e
     exact he (by rw [e])
    clear he
    go_wp2
    go_quiet (fail)
    go_wp2
    go_ret
    exact ⟨ret_bool HE.out.symm, _, World.drewN_drewN _ _ _⟩
  ·have HE : Hid (decide (a = b) = true) := by
    unfold Hid
    rw [decide_eq_true_iff]
    refine ext_gt (by rw [HL.out.1, HL.out.2]) fun i hi => hs.out i ?_
    rw [HL.out.1] at hi
    omega
   go_wp2
   go_ret
   exact ⟨ret_bool HE.out.symm, q, rfl⟩
theorem part_cells (w : World) (base n : Nat) (l : List F) (hl : l.length = n) {v : Value} (h : w.ownsRow base 5 1 v n (madeCells (Value.int .u8 0).cells (n * 1)).toList) : w.ownsRow base 5 1 v n (cs (part l 0)) := by
 rw [part_zero, hl, cs_replicate]
 have e : madeCells (Value.int .u8 0).cells (n * 1) = madeCells #[.int .u8 0] n := by rw [Nat.mul_one]; rfl
 rw [e, toList_madeCells_one] at h
 exact h
theorem one_cell (w : World) (v : Value) (t : TypeId) : ∀ j u, [v][j]? = some u → (w.alloc (.cells #[v] t)).cell? ((⟨w.heap.size, 0, none⟩ : Addr).add j) = some u := by
 intro j u hu
 have hj : j = 0 := by
  have := (List.getElem?_eq_some_iff.1 hu).1
  simpa using this
 subst hj
 have e : (⟨w.heap.size, 0, none⟩ : Addr).add 0 = ⟨w.heap.size, 0, none⟩ := rfl
 rw [e, cell_of_row _ _ 0 _ t (0, 0) (heap_alloc_new w _)]
 simpa using hu
theorem own_base {w : World} {base base' n : Nat} {e : TypeId} {v : Value} {xs : List Value} (h : w.ownsRow base e 1 v n xs) (hb : base' ≤ base) : w.ownsRow base' e 1 v n xs := by
 refine ⟨h.1, ?_⟩
 rcases h.2 with h | ⟨g, cap, cur, hv, hbb, r⟩
 ·exact .inl h
 ·exact .inr ⟨g, cap, cur, hv, by omega, r⟩
theorem quiet_add {P : Program} {f : FuncId} {args : Array Value} {w : World} {a n : Nat} {v : Value}
  (h : Calls P f args (w.drewN (a + n)) fun e w' => e = .returned v ∧ ∃ m, w' = (w.drewN (a + n)).drewN m) :
  Calls P f args (w.drewN (a + n)) fun e w'' => e = .returned v ∧ ∃ m, w'' = w.drewN (a + m) :=
 h.mono fun _ _ ⟨he, m, hm⟩ => ⟨he, n + m, by rw [hm, World.drewN_drewN, Nat.add_assoc]⟩
theorem quiet_one {P : Program} {f : FuncId} {args : Array Value} {w : World} {n : Nat} {v : Value}
  (h : Calls P f args (w.drewN n) fun e w' => e = .returned v ∧ ∃ m, w' = (w.drewN n).drewN m) :
  Calls P f args (w.drewN n) fun e w'' => e = .returned v ∧ ∃ m, w'' = w.drewN m :=
 h.mono fun _ _ ⟨he, m, hm⟩ => ⟨he, n + m, by rw [hm, World.drewN_drewN]⟩
theorem wpList_load_var {P : Program} {w : World} {ops : Array Oper} {rest : List Oper} {a : Act} {Q : Exit → Act → World → Prop} {dst : Option Tmp} {p : Operand} {T ty : TypeId} {pos : String} {aft : Array Edge} (g : Nat) (v : Value)
  (hp : a.eval p = .pointer (some ⟨g, 0, none⟩)) (hrun : Sem.run P (loadVar T ⟨g, 0, none⟩) w = .ok v w) (hK : wpList P ops Q rest (a.put dst v) w) :
  wpList P ops Q ({ dst := dst, op := Op.load T p, type := ty, pos := pos, after := aft, guard := none } :: rest) a w := by
 refine wpList_plain rfl fun K hK' => ?_
 have hr : (Instr.loadAt T (.pointer (some ⟨g, 0, none⟩))).run P w = .ok v w := by
  simp only [Instr.loadAt, Instr.sureAddr, Sem.run_bind, Sem.run_pure, Result.andThen]
  exact hrun
 unfold Oper.wp
 simp [execOp, hp, hr, Result.andThen]
 exact hK' _ _ hK
theorem wpList_store_var {P : Program} {w : World} {ops : Array Oper} {rest : List Oper} {a : Act} {Q : Exit → Act → World → Prop} {p x : Operand} {T ty : TypeId} {pos : String} {aft : Array Edge} (g : Nat) (v : Value) (w' : World)
  (hp : a.eval p = .pointer (some ⟨g, 0, none⟩)) (hx : a.eval x = v) (hrun : Sem.run P (storeVar T ⟨g, 0, none⟩ v) w = .ok () w') (hK : wpList P ops Q rest a w') :
  wpList P ops Q ({ dst := none, op := Op.store T p x, type := ty, pos := pos, after := aft, guard := none } :: rest) a w := by
 refine wpList_plain rfl fun K hK' => ?_
 have hr : (Instr.storeAt T (.pointer (some ⟨g, 0, none⟩)) v).run P w = .ok () w' := by
  simp only [Instr.storeAt, Instr.sureAddr, Sem.run_bind, Sem.run_pure, Result.andThen]
  exact hrun
 unfold Oper.wp
 simp [execOp, hp, hx, hr, Result.andThen]
 exact hK' _ _ hK
theorem Blk.lt {w : World} {g : Nat} {t : TypeId} {C : Array Value} (h : Blk w g t C) : g < w.heap.size := (Array.getElem?_eq_some_iff.1 h).1
theorem Blk.drew {w : World} {g : Nat} {t : TypeId} {C : Array Value} (h : Blk w g t C) : Blk w.drew g t C := h
end
section
open Go.RowKit
set_option maxRecDepth 100000
set_option linter.unusedVariables false
def RowV (w : World) (b n : Nat) (f : Nat → Value) : Prop := ∃ (cur : Array Value) (t : TypeId), w.heap[b]? = some (.cells cur t (0, 0)) ∧ n ≤ cur.size ∧ ∀ i, i < n → cur[i]? = some (f i)
namespace RowV
variable {w w' : World} {b n : Nat} {f g : Nat → Value}
theorem cell (h : RowV w b n f) {i : Nat} (hi : i < n) : w.cell? ⟨b, i, none⟩ = some (f i) := by
 obtain ⟨c, t, hb, _, hc⟩ := h
 simp [World.cell?, hb, hc i hi]
theorem frozen (h : RowV w b n f) (i : Nat) : w.frozen? ⟨b, i, none⟩ = false := by
 obtain ⟨c, t, hb, _, _⟩ := h
 simp [World.frozen?, hb]
theorem lt (h : RowV w b n f) : b < w.heap.size := by
 obtain ⟨c, t, hb, _, _⟩ := h
 exact (Array.getElem?_eq_some_iff.1 hb).1
theorem congr (h : RowV w b n f) (e : ∀ i, i < n → f i = g i) : RowV w b n g := by
 obtain ⟨c, t, hb, hn, hc⟩ := h
 exact ⟨c, t, hb, hn, fun i hi => by rw [hc i hi, e i hi]⟩
theorem set (h : RowV w b n f) (i : Nat) (v : Value) : RowV (w.setCell ⟨b, i, none⟩ v) b n (fun j => if j = i then v else f j) := by
 obtain ⟨c, t, hb, hn, hc⟩ := h
 refine ⟨c.setIfInBounds i v, t, ?_, by simpa using hn, fun j hj => ?_⟩
 ·simp [World.setCell, Array.getElem?_modify, hb]
 ·rw [Array.getElem?_setIfInBounds]
  by_cases e : j = i
  ·subst e
   rw [if_pos rfl, if_pos (by omega)]
   simp
  ·rw [if_neg (fun h => e h.symm)]
   simp only [if_neg e]
   exact hc j hj
theorem own {base c : Nat} {e : TypeId} {xs : List Value} (h : w.ownsRow base e 1 (.slice (some ⟨b, 0, none⟩) n c) n xs) : RowV w b n (fun i => xs.getD i undef) := by
 rcases h.2 with ⟨hv, _⟩ | ⟨g, cap, cur, hv, _, hg, hnc, _, hsz, ht⟩
 ·injection hv with h1; cases h1
 ·injection hv with h1 _ _
  injection h1 with h1
  injection h1 with h1 _ _
  subst h1
  have hl := h.1
  refine ⟨cur, e, hg, by omega, fun i hi => ?_⟩
  have h2 : xs[i]? = cur[i]? := by
   rw [← ht, List.getElem?_take, if_pos (by omega)]
   simp
  rw [← h2, List.getElem?_eq_getElem (by omega)]
  simp [show i < xs.length by omega]
end RowV
structure Out (lo hi : Nat) (w w' : World) : Prop where
 os : w'.os = w.os
 tape : w'.tape = w.tape
 output : w'.output = w.output
 size : w.heap.size ≤ w'.heap.size
 block : ∀ k, k < w.heap.size → (k < lo ∨ hi ≤ k) → w'.heap[k]? = w.heap[k]?
namespace Out
variable {lo hi : Nat} {w w' w'' : World}
theorem refl (lo hi : Nat) (w : World) : Out lo hi w w := ⟨rfl, rfl, rfl, Nat.le_refl _, fun _ _ _ => rfl⟩
theorem trans (h : Out lo hi w w') (k : Out lo hi w' w'') : Out lo hi w w'' :=
 ⟨k.os.trans h.os, k.tape.trans h.tape, k.output.trans h.output, Nat.le_trans h.size k.size, fun i hi' ho => (k.block i (Nat.lt_of_lt_of_le hi' h.size) ho).trans (h.block i hi' ho)⟩
theorem ofBelow (h : Below w.heap.size w w') : Out lo hi w w' := ⟨h.os, h.tape, h.output, h.size, fun k hk _ => h.block k hk⟩
theorem below (h : Out lo hi w w') (hl : lo ≤ w.heap.size) : Below lo w w' := ⟨h.os, h.tape, h.output, h.size, fun k hk => h.block k (by omega) (.inl hk)⟩
end Out
end
section
open Go.RowKit
set_option maxRecDepth 100000
set_option linter.unusedVariables false
theorem Out.drewN (lo hi : Nat) (w : World) (q : Nat) : Out lo hi w (w.drewN q) := ⟨rfl, rfl, rfl, Nat.le_refl _, fun _ _ _ => rfl⟩
theorem Out.setCell {p : Nat} {w w' : World} (h : Out p (p + 1) w w') (i : Nat) (v : Value) : Out p (p + 1) w (w'.setCell ⟨p, i, none⟩ v) :=
 h.trans ⟨rfl, rfl, rfl, by simp [World.setCell], fun k _ ho => Below.heap_setCell _ _ _ _ (fun e => by simp at e; omega)⟩
theorem Row.setOther {w : World} {A : Option Addr} {n : Nat} {l : List F} (h : Row w A n l) {a : Addr} (hne : ∀ b o, A = some ⟨b, o, none⟩ → b ≠ a.block) (v : Value) : Row (w.setCell a v) A n l := by
 refine ⟨h.1, h.2.1, fun hn => ?_⟩
 obtain ⟨b, o, e, hl, hc⟩ := h.2.2 hn
 refine ⟨b, o, e, by simpa [World.setCell] using hl, fun i hi => ?_⟩
 rw [World.cell?_of_block (a := ⟨b, o + i, none⟩) (Go.Deep.blk_setCell_other w a v b (hne b o e))]
 exact hc i hi
theorem RowIn.slice {w : World} {A : Option Addr} {len cap a M : Nat} {l : List F} (h : RowIn w A len cap l) (h1 : a ≤ M) (h2 : M ≤ len) :
  (cap = a → RowIn w A (M - a) 0 ((l.drop a).take (M - a))) ∧ (¬ cap = a → RowIn w (A.map fun x => x.add a) (M - a) (cap - a) ((l.drop a).take (M - a))) := by
 have hl := h.row.len
 have hc := h.le
 have hm := h.max
 constructor
 ·intro e
  have e0 : M - a = 0 := by omega
  rw [e0, List.take_zero]
  exact ⟨Row.nil w A, by omega, by omega⟩
 ·intro e
  refine ⟨⟨by simp; omega, by omega, fun hn => ?_⟩, by omega, by omega⟩
  obtain ⟨b, o, rfl, hb, hcell⟩ := h.row.2.2 (by omega)
  refine ⟨b, o + a, by simp [Addr.add], hb, fun i hi => ?_⟩
  have := hcell (a + i) (by omega)
  rw [show o + a + i = o + (a + i) by omega, this, gt_take, if_pos hi, gt_drop]
theorem own_ne {w : World} {base n c p : Nat} {e : TypeId} {A : Option Addr} {xs : List Value} (h : w.ownsRow base e 1 (.slice A n c) n xs) (hp : p < base) : ∀ b o, A = some ⟨b, o, none⟩ → b ≠ p := fun b o e => by
 rcases h.2 with ⟨hv, _⟩ | ⟨g, cap, cur, hv, hg, _⟩
 ·injection hv with hv; rw [hv] at e; cases e
 ·injection hv with hv; rw [hv] at e; injection e with e; injection e with e; omega
theorem Out.ofB {lo hi : Nat} {w w' w'' : World} (h : Out lo hi w w') (hb : Below w'.heap.size w' w'') : Out lo hi w w'' := h.trans (Out.ofBelow hb)
theorem own_base2 {w : World} {base base' n : Nat} {e : TypeId} {v : Value} {xs : List Value} (h : w.ownsRow base e 1 v n xs) (hb : base' ≤ base) : w.ownsRow base' e 1 v n xs := by
 refine ⟨h.1, ?_⟩
 rcases h.2 with hn | ⟨g, cap, cur, rfl, hbg, rest⟩
 ·exact .inl hn
 ·exact .inr ⟨g, cap, cur, rfl, by omega, rest⟩
end
section
open Go.RowKit
set_option maxRecDepth 100000
set_option linter.unusedVariables false
def two64 : Nat := 18446744073709551616
def gi (l : List Int) (i : Nat) : Int := l.getD i 0
structure IRow (w : World) (A : Option Addr) (n : Nat) (k : IntKind) (l : List Int) : Prop where
 len : l.length = n
 max : n ≤ maxLen
 cells : 0 < n → ∃ b off, A = some ⟨b, off, none⟩ ∧ b < w.heap.size ∧ ∀ i, i < n → w.cell? ⟨b, off + i, none⟩ = some (.int k (gi l i))
 wf : ∀ i, i < n → (Lit.int k (gi l i)).wf = true
namespace IRow
variable {w w' : World} {A : Option Addr} {n : Nat} {k : IntKind} {l : List Int}
theorem at_ (h : IRow w A n k l) {i : Nat} (hi : i < n) : ∃ b off, A = some ⟨b, off, none⟩ ∧ b < w.heap.size ∧ w.cell? ⟨b, off + i, none⟩ = some (.int k (gi l i)) := by
 obtain ⟨b, off, e, hb, hc⟩ := h.cells (by omega)
 exact ⟨b, off, e, hb, hc i hi⟩
theorem below (h : IRow w A n k l) (hb : Below w.heap.size w w') : IRow w' A n k l :=
 ⟨h.len, h.max, fun hn => by
  obtain ⟨b, off, e, hl, hc⟩ := h.cells hn
  exact ⟨b, off, e, by have := hb.size; omega, fun i hi => (hb.cell (p := ⟨b, off + i, none⟩) hl).trans (hc i hi)⟩, h.wf⟩
theorem drewN (h : IRow w A n k l) (q : Nat) : IRow (w.drewN q) A n k l := ⟨h.len, h.max, h.cells, h.wf⟩
theorem max' (h : IRow w A n k l) : n ≤ 9223372036854775807 := by have := h.max; unfold maxLen at this; exact this
end IRow
theorem wf_i64 {a : Int} (h : (Lit.int .i64 a).wf = true) : -9223372036854775808 ≤ a ∧ a ≤ 9223372036854775807 := by
 simp [Lit.wf, IntKind.min, IntKind.max, IntKind.bits, IntKind.signed] at h
 omega
theorem andLow (x : Int) (j : Nat) (hj : j < 63) : bits .and .i64 x ((2 ^ j - 1 : Nat) : Int) = x % 2 ^ j := by
 show IntKind.i64.wrap ((BitVec.ofInt 64 x &&& BitVec.ofInt 64 ((2 ^ j - 1 : Nat) : Int)).toNat : Int) = x % 2 ^ j
 have hp : (2 : Nat) ^ j < 2 ^ 63 := Nat.pow_lt_pow_right (by decide) hj
 have hp0 : 0 < (2 : Nat) ^ j := Nat.pow_pos (by decide)
 have e63 : (2 : Nat) ^ 63 = 9223372036854775808 := rfl
 have h2 : (BitVec.ofInt 64 ((2 ^ j - 1 : Nat) : Int)).toNat = 2 ^ j - 1 := by
  rw [BitVec.ofInt_natCast, BitVec.toNat_ofNat]
  exact Nat.mod_eq_of_lt (by omega)
 rw [BitVec.toNat_and, h2, BitVec.toNat_ofInt, Nat.and_two_pow_sub_one_eq_mod]
 have h3 : (x % (2 : Int) ^ 64).toNat % 2 ^ j = (x % 2 ^ j).toNat := by
  have h4 : 0 ≤ x % (2 : Int) ^ 64 := Int.emod_nonneg _ (by decide)
  have h5 : (0 : Int) ≤ x % 2 ^ j := Int.emod_nonneg _ (by have := Int.pow_pos (n := 2) (m := j) (by decide); omega)
  have h6 : (x % (2 : Int) ^ 64) % 2 ^ j = x % 2 ^ j := Int.emod_emod_of_dvd _ ⟨2 ^ (64 - j), by rw [← Int.pow_add, show j + (64 - j) = 64 by omega]⟩
  have h7 : (((x % (2 : Int) ^ 64).toNat % 2 ^ j : Nat) : Int) = (x % 2 ^ j) := by
   rw [Int.natCast_emod, Int.toNat_of_nonneg h4]
   simpa using h6
  omega
 have e64 : ((2 ^ 64 : Nat) : Int) = (2 : Int) ^ 64 := Int.natCast_pow 2 64
 rw [e64, h3]
 have h5 : (0 : Int) ≤ x % 2 ^ j := Int.emod_nonneg _ (by have := Int.pow_pos (n := 2) (m := j) (by decide); omega)
 have h8 : x % 2 ^ j < 2 ^ j := Int.emod_lt_of_pos _ (Int.pow_pos (by decide))
 have h9 : ((2 : Int) ^ j) = ((2 ^ j : Nat) : Int) := by simp
 rw [Int.toNat_of_nonneg h5]
 exact IntWalk.i64_in _ (by omega)
end
section
open Go.RowKit
set_option maxRecDepth 100000
set_option linter.unusedVariables false
end
section
open Go.RowKit
set_option maxRecDepth 100000
set_option linter.unusedVariables false
theorem nothing_src (P : Program) (t e : TypeId) (hk : P.underlying t = some (.slice e)) (B : Option Addr) (c : Nat) (w : World) : Src P 1 t (.slice B 0 c) 0 [] w := by
 cases B with
 | none => exact ⟨.inl ⟨e, hk⟩, fun _ => rfl, run_firstCells_none w 1 0 0 c, run_firstCells_none w.drew 1 0 0 c, rfl, by simp⟩
 | some a => exact Src.ofSlice w hk a 0 c [] rfl (by simp) (by simp)
def Laid (w : World) (base : Nat) (v : Value) (n : Nat) (xs : List Value) (w' : World) (v' : Value) : Prop :=
 ∃ A c, v' = .slice A n c ∧ w'.ownsRow base 5 1 v' n xs ∧ w.grownBy w' v.ownBlock ∧ (v'.ownBlock = v.ownBlock ∨ ∀ g, v'.ownBlock = some g → w.heap.size ≤ g)
theorem wp_append_row (i : TypeInfo) (hi : Tryz.prog.info? 5 = some i) (hz : i.zero = some (.int .u8 0)) (hsize : i.size = 1) (hby : i.bytes = 1)
  {w : World} {o : Oper} {a : Act} {K : Act → World → Prop} {Q : Exit → Act → World → Prop} (s x : Operand)
  (ho : o.op = .call { callee := .builtin .append, args := #[s, x], argTypes := #[22, 22] }) (base : Nat)
  (v : Value) (n : Nat) (xs : List Value) (hs : a.eval s = v) (hown : w.ownsRow base 5 1 v n xs)
  (B : Option Addr) (m cb : Nat) (l : List F) (hx : a.eval x = .slice B m cb) (hl : Row w B m l) (hm : n + m ≤ 1000000000) (hbase : base ≤ w.heap.size)
  (h : ∀ v' w', Laid w base v (n + m) (xs ++ cs l) w' v' → K (a.put o.dst v') w') : o.wp Tryz.prog a w K Q := by
 rcases Nat.eq_zero_or_pos m with rfl | h0
 ·obtain rfl : l = [] := List.eq_nil_of_length_eq_zero hl.len
  obtain ⟨A, c, rfl, hc⟩ := own_shape hown
  have hr := run_append_nothing (P := Tryz.prog) w 22 22 o.type 5 i Tryz.underlying22 hi A n c hc.1 (.slice B 0 cb) (by rw [hsize]; exact nothing_src _ _ _ Tryz.underlying22 B cb w)
  refine Lib.wp_append_run w s x _ _ ho _ _ hs hx _ _ hr (h _ w ⟨A, c, rfl, ?_, ⟨rfl, rfl, rfl, Nat.le_refl _, fun _ _ _ => rfl⟩, .inl rfl⟩)
  simpa [cs] using hown
 ·obtain ⟨b, off, hB, _, _⟩ := hl.at_ (k := 0) h0
  subst hB
  refine wp_append_lies w s x _ ho base 5 i (.int .u8 0) 1 1 Tryz.underlying22 hi hz hsize hby rfl (by decide) v n xs hs hown ⟨b, off, none⟩ m cb (cs l) hx (by rw [cs_length, hl.len, Nat.mul_one]) hl.cells (cs_one l) h0 (by unfold maxLen; omega) (by omega) hbase _ rfl ?_
  intro g cap w' h2 h3 h4 _
  refine h _ w' ⟨_, cap, rfl, h2, h3, ?_⟩
  rcases h4 with h4 | h4
  ·exact .inl h4.symm
  ·exact .inr fun y hy => by cases hy; show _ ≤ g; omega
theorem step_append_row (i : TypeInfo) (hi : Tryz.prog.info? 5 = some i) (hz : i.zero = some (.int .u8 0)) (hsize : i.size = 1) (hby : i.bytes = 1)
  {w : World} {ops : Array Oper} {o : Oper} {a : Act} {K : Act → World → Prop} {Q : Exit → Act → World → Prop} {E : Prop} (hgd : o.guard = none) (s x : Operand)
  (ho : o.op = .call { callee := .builtin .append, args := #[s, x], argTypes := #[22, 22] }) (base : Nat)
  (v : Value) (n : Nat) (xs : List Value) (hs : a.eval s = v) (hown : w.ownsRow base 5 1 v n xs)
  (B : Option Addr) (m cb : Nat) (l : List F) (hx : a.eval x = .slice B m cb) (hl : Row w B m l) (hm : n + m ≤ 1000000000) (hbase : base ≤ w.heap.size)
  (h : ∀ v' w', Laid w base v (n + m) (xs ++ cs l) w' v' → K (a.put o.dst v') w') : if Region.wanted o (yielded ops a.tmps) = true then Oper.wp Tryz.prog o a w K Q else E := by
 have hw : Region.wanted o (yielded ops a.tmps) = true := by simp [Region.wanted, hgd]
 rw [if_pos hw]
 exact wp_append_row i hi hz hsize hby s x ho base v n xs hs hown B m cb l hx hl hm hbase h
theorem wpList_append_row (i : TypeInfo) (hi : Tryz.prog.info? 5 = some i) (hz : i.zero = some (.int .u8 0)) (hsize : i.size = 1) (hby : i.bytes = 1)
  {w : World} {ops : Array Oper} {rest : List Oper} {o : Oper} {a : Act} {Q : Exit → Act → World → Prop} (hgd : o.guard = none) (s x : Operand)
  (ho : o.op = .call { callee := .builtin .append, args := #[s, x], argTypes := #[22, 22] }) (base : Nat)
  (v : Value) (n : Nat) (xs : List Value) (hs : a.eval s = v) (hown : w.ownsRow base 5 1 v n xs)
  (B : Option Addr) (m cb : Nat) (l : List F) (hx : a.eval x = .slice B m cb) (hl : Row w B m l) (hm : n + m ≤ 1000000000) (hbase : base ≤ w.heap.size)
  (h : ∀ v' w', Laid w base v (n + m) (xs ++ cs l) w' v' → wpList Tryz.prog ops Q rest (a.put o.dst v') w') : wpList Tryz.prog ops Q (o :: rest) a w :=
 wpList_plain hgd fun _ hK => wp_append_row i hi hz hsize hby s x ho base v n xs hs hown B m cb l hx hl hm hbase fun v' w' hq => hK _ _ (h v' w' hq)
end
end Go.Proofs.YtldgdofefcehnaaGreatDoor
