/-
  THE CONTRACTS OF name's Under, Twice; the document's Twice. Strings of at most 1000000 bytes; lists of at most 1000 names.
-/
import Derived.Test.YtcodgamhgfafnaaDoorNamH
import Derived.Maps.OwnSet
import Derived.Maps.OwnOps
namespace Go.Proofs.YtcodgamhgfafnaaDoor
open Go.RowKit Go.Shelf Go.Maps Go.WideMaps
set_option maxRecDepth 1000000
set_option linter.unusedVariables false

theorem S_add (a b : List UInt8) : S a ++ S b = S (a ++ b) := by
  apply ByteArray.ext
  simp [S, ByteArray.data_append]
/-- is a name one within another one? -/
def undB (a d : List UInt8) : Bool := nok a && (nok d && preB a (d ++ [47]))
theorem nokE_eq (l : List UInt8) : (nokE l == 0) = nok l := by
  unfold nokE
  cases nok l <;> rfl
set_option maxHeartbeats 2000000 in
theorem Under_c (a d : List UInt8) (ha : a.length ≤ 1000000) (hd : d.length ≤ 1000000) (w : World) :
    Calls Tryd.prog 18 #[.string (S a), .string (S d)] w fun e w' => e = .returned (.bool (undB a d)) ∧ Below w.heap.size w w' := by
  have HA := Lib.hid (fun W => Check_c a ha W)
  have HD := Lib.hid (fun W => Check_c d hd W)
  have HP := Lib.hid (fun W => HasPrefix_c a (d ++ [47]) W)
  have hadd : S d ++ (⟨#[47]⟩ : ByteArray) = S (d ++ [47]) := S_add d [47]
  have hs1 := S_size d
  generalize S a = sa at *
  generalize S d = sd at *
  generalize S (d ++ [47]) = sx at *
  have qa := nokE_eq a
  have qd := nokE_eq d
  unfold undB
  generalize nokE a = za at *
  generalize nokE d = zd at *
  generalize preB a (d ++ [47]) = pb at *
  generalize nok a = na at *
  generalize nok d = nd at *
  have HQ := Lib.hid hd
  cases na with
  | false =>
    clear HD HP qd hadd
    go_enter Tryd.func18, Tryd.ntmps18
    go_wp2_with fail
    refine (HA.out _).mono ?_
    rintro e w2 ⟨rfl, hb⟩
    go_wp2
    go_ret
    exact ⟨rfl, hb⟩
  | true =>
    cases nd with
    | false =>
      clear HP hadd
      go_enter Tryd.func18, Tryd.ntmps18
      go_wp2_with fail
      refine (HA.out _).mono ?_
      rintro e w2 ⟨rfl, hb⟩
      go_wp2_with fail
      refine (HD.out _).mono ?_
      rintro e w3 ⟨rfl, hb3⟩
      have HB := Lib.hid (hb.trans (hb3.mono hb.size))
      clear hb hb3
      go_wp2
      go_ret
      exact ⟨rfl, HB.out⟩
    | true =>
      go_enter Tryd.func18, Tryd.ntmps18
      go_wp2_with fail
      refine (HA.out _).mono ?_
      rintro e w2 ⟨rfl, hb⟩
      go_wp2_with fail
      refine (HD.out _).mono ?_
      rintro e w3 ⟨rfl, hb3⟩
      have HB := Lib.hid (hb.trans (hb3.mono hb.size))
      clear hb hb3
      go_wp2_with fail
      refine (HP.out _).mono ?_
      rintro e w4 ⟨rfl, rfl⟩
      go_wp2
      go_ret
      exact ⟨rfl, HB.out⟩
/-! ### Twice -/
/-- the first place whose name stands ahead of it -/
structure TwS (L : List (List UInt8)) (z : Int) : Prop where
  res : (z = -1 ∧ ∀ i, i < L.length → L.getD i [] ∉ L.take i) ∨ ∃ i, i < L.length ∧ z = (i : Int) ∧ L.getD i [] ∈ L.take i ∧ ∀ j, j < i → L.getD j [] ∉ L.take j
theorem TwS.unique {L : List (List UInt8)} {x y : Int} (h : TwS L x) (g : TwS L y) : x = y := by
  rcases h.res with ⟨rfl, h1⟩ | ⟨i, hi, rfl, h1, h2⟩ <;> rcases g.res with ⟨rfl, g1⟩ | ⟨j, hj, rfl, g1, g2⟩
  · rfl
  · exact absurd g1 (h1 j hj)
  · exact absurd h1 (g1 i hi)
  · rcases Nat.lt_trichotomy i j with h3 | h3 | h3
    · exact absurd h1 (g2 i h3)
    · rw [h3]
    · exact absurd g1 (h2 j h3)
def setS {H : Type} (L : List (List UInt8)) (k : Nat) : DataW H := setOf (.agg []) ((L.take k).map Lit.string)
theorem take_snocS {L : List (List UInt8)} {k : Nat} (h : k < L.length) : L.take (k + 1) = L.take k ++ [L.getD k []] := by
  rw [List.take_succ_eq_append_getElem h, List.getD_eq_getElem?_getD, List.getElem?_eq_getElem h]
  rfl
theorem setS_succ {H : Type} {L : List (List UInt8)} {k : Nat} (h : k < L.length) : setS (H := H) L (k + 1) = (setS L k).put (Lit.string (L.getD k [])) (.agg []) := by
  unfold setS
  rw [take_snocS h, List.map_append]
  exact setOf_snoc _ _ _
theorem has_setS {H : Type} (L : List (List UInt8)) (k : Nat) (p : List UInt8) : Maps.has (setS (H := H) L k) (.string p) = decide (p ∈ L.take k) := by
  unfold setS
  rw [has_setOf _ _ _ (fun y hy => by obtain ⟨_, _, rfl⟩ := List.mem_map.1 hy; trivial), List.any_map]
  rw [Bool.eq_iff_iff, List.any_eq_true, decide_eq_true_iff]
  constructor
  · rintro ⟨x, hx, h⟩
    have h2 : (x == p) = true := h
    rw [beq_iff_eq] at h2
    rw [← h2]
    exact hx
  · intro h
    exact ⟨p, h, show (p == p) = true from beq_self_eq_true p⟩
theorem zero_unit16 (w : World) : (zeroValue 43).run Tryd.prog w = .ok (.agg #[]) w := by kernel_rfl
theorem lawS16 : Keyed Tryd.prog 9 := string_keyed Tryd.underlying9
set_option maxHeartbeats 4000000 in
theorem Twice_c (A : Option Addr) (n c : Nat) (L : List (List UInt8)) (w : World) (hA : SRow w A n L) (hn : n ≤ 1000) (hmx : ∀ i, i < n → (L.getD i []).length ≤ maxLen) :
    Calls Tryd.prog 19 #[.slice A n c] w fun e w' => ∃ z, e = .returned (.int .i64 z) ∧ TwS L z ∧ Below w.heap.size w w' := by
  have hmm := @run_makeMap Tryd.prog
  have HA := Lib.hid hA
  have HLA := Lib.hid hA.len
  have HMX := Lib.hid hmx
  clear hA hmx
  go_enter Tryd.func19, Tryd.ntmps19
  go_wp2
  go_loopw [11] (fun i wr => ∃ j : Nat, i = .int .i64 (j : Int) ∧ j ≤ n ∧ wr.ownsMap Tryd.prog 9 unitElem w.heap.size j (setS (H := Unit) L j) ∧ Hid (∀ i, i < j → L.getD i [] ∉ L.take i) ∧ Hid (Below w.heap.size w wr) ∧ w.heap.size + 1 ≤ wr.heap.size) (fun i _ => n - (intOf i).toNat)
  case atStart => exact ⟨0, rfl, by omega, World.ownsMap_made _ _ _ _, fun i hi => by omega, (Below.refl _ _).alloc (Nat.le_refl _) _, by simp⟩
  case round =>
    obtain ⟨j, rfl, hjn, hown, hall, hb, hws⟩ := hrel
    by_cases hlt : j < n
    · have hlti : (j : Int) < (n : Int) := by omega
      obtain ⟨b1, o1, rfl, c1⟩ := (HA.out.below hb.out).at_ hlt
      have hpl := HMX.out j hlt
      have hkey : keyOf Tryd.prog 9 (.string (S (L.getD j []))) = some (.string (L.getD j [])) := by
        have := keyOf_string_mk (P := Tryd.prog) (k := 9) Tryd.underlying9 (s := S (L.getD j [])) (by rw [S_size]; exact hpl)
        rw [toList_S] at this
        exact this
      have HS := Lib.hid (setS_succ (H := Unit) (L := L) (k := j) (by rw [HLA.out]; exact hlt))
      have HH := Lib.hid (has_setS (H := Unit) L j (L.getD j []))
      have HIT : Hid (L.getD j [] ∈ L.take j → TwS L (j : Int)) := fun h => ⟨.inr ⟨j, by rw [HLA.out]; exact hlt, rfl, h, hall.out⟩⟩
      have HN : Hid (L.getD j [] ∉ L.take j → ∀ i, i < j + 1 → L.getD i [] ∉ L.take i) := fun h i hi => by
        rcases Nat.lt_or_ge i j with h3 | h3
        · exact hall.out i h3
        · obtain rfl : i = j := by omega
          exact h
      generalize L.getD j [] = p at *
      generalize S p = pv at *
      by_cases hin : p ∈ L.take j
      · have hit := Lib.hid (HIT.out hin)
        have hh : Maps.has (setS (H := Unit) L j) (Lit.string p) = true := by rw [HH.out]; exact decide_eq_true hin
        clear hin HIT HN HH
        go_wp2_with (first
          | (at_lookup; refine wpList_lookup_own_unit _ rfl _ _ 42 rfl 9 43 lawS16 Tryd.underlying42 (zero_unit16 _) w.heap.size j _ rfl hown _ _ rfl hkey ?_)
          | go_in)
        go_ret
        exact ⟨_, rfl, hit.out, hb.out.alloc hb.out.size _⟩
      · have hnx := Lib.hid (HN.out hin)
        have hh : Maps.has (setS (H := Unit) L j) (Lit.string p) = false := by rw [HH.out]; exact decide_eq_false hin
        clear hin HIT HN HH
        go_wp2_with (first
          | (at_lookup; refine wpList_lookup_own_unit _ rfl _ _ 42 rfl 9 43 lawS16 Tryd.underlying42 (zero_unit16 _) w.heap.size j _ rfl hown _ _ rfl hkey ?_)
          | (at_mapUpdate; refine wpList_mapUpdate_own _ rfl _ _ _ 42 rfl 9 43 lawS16 Tryd.underlying42 (unitElem (H := Unit)) w.heap.size j _ rfl (hown.alloc _) (by unfold maxLen; omega) _ _ _ rfl rfl hkey _ [] unitElem_mk ?_; intro w1 hown1 hgrow1)
          | go_in)
        go_roundw
        case rel => exact ⟨j + 1, by go_num, by omega, by rw [HS.out]; exact hown1, hnx, (hb.out.alloc hb.out.size _).grown hgrow1 (by simp; omega) (fun j hj => by cases hj; exact Nat.le_refl _), by have := hgrow1.size; simp at this; omega⟩
        case measure => simp [intOf]; omega
    · have hlti : ¬ (j : Int) < (n : Int) := by omega
      have hfin : Hid (TwS L (-1)) := ⟨.inl ⟨rfl, fun i hi => hall.out i (by rw [HLA.out] at hi; omega)⟩⟩
      go_wp2
      go_ret
      exact ⟨_, rfl, hfin.out, hb.out⟩
theorem mem_take_iff {L : List (List UInt8)} {i : Nat} (hi : i ≤ L.length) (p : List UInt8) : p ∈ L.take i ↔ ∃ k, k < i ∧ L.getD k [] = p := by
  constructor
  · intro h
    obtain ⟨k, hk, e⟩ := List.getElem_of_mem h
    rw [List.length_take] at hk
    refine ⟨k, by omega, ?_⟩
    rw [List.getElem_take] at e
    rw [List.getD_eq_getElem?_getD, List.getElem?_eq_getElem (by omega)]
    exact e
  · rintro ⟨k, hk, e⟩
    rw [List.getD_eq_getElem?_getD, List.getElem?_eq_getElem (by omega)] at e
    simp only [Option.getD_some] at e
    rw [← e]
    exact List.mem_take_iff_getElem.2 ⟨k, by omega, rfl⟩
set_option maxHeartbeats 4000000 in
theorem RTwice_c (A : Option Addr) (n c : Nat) (L : List (List UInt8)) (w : World) (hA : SRow w A n L) (hn : n ≤ 1000) :
    Calls Tryd.prog 20 #[.slice A n c] w fun e w' => ∃ z, e = .returned (.int .i64 z) ∧ TwS L z ∧ Below w.heap.size w w' := by
  have HA := Lib.hid hA
  have HLA := Lib.hid hA.len
  clear hA
  go_enter Tryd.func20, Tryd.ntmps20
  go_wp2
  go_loopw [3, 4] (fun i _ wr => ∃ (j q : Nat), i = .int .i64 (j : Int) ∧ j ≤ n ∧ Hid (∀ i, i < j → L.getD i [] ∉ L.take i) ∧ Hid (wr = w.drewN q)) (fun i _ _ => n - (intOf i).toNat)
  case atStart => exact ⟨0, 0, rfl, by omega, fun i hi => by omega, rfl⟩
  case round =>
    obtain ⟨j, q, rfl, hjn, hall, hw⟩ := hrel
    by_cases hlt : j < n
    · have hlti : (j : Int) < (n : Int) := by omega
      go_wp2
      go_loopw [4] (fun k wr => ∃ (m q : Nat), k = .int .i64 (m : Int) ∧ m ≤ j ∧ Hid (∀ i, i < m → L.getD i [] ≠ L.getD j []) ∧ Hid (wr = w.drewN q)) (fun k _ => j - (intOf k).toNat)
      case atStart => exact ⟨0, q, rfl, by omega, fun i hi => by omega, hw.out⟩
      case round =>
        obtain ⟨m, q2, rfl, hmj, hne, hw2⟩ := hrel
        by_cases hlm : m < j
        · have hlmi : (m : Int) < (j : Int) := by omega
          have hmn : m < n := by omega
          have hmni : (m : Int) < (n : Int) := by omega
          obtain ⟨b1, o1, rfl, c1⟩ := (HA.out.below (below_drewN (Below.refl w.heap.size w) q2)).at_ hlt
          obtain ⟨b2, o2, ea, c2⟩ := (HA.out.below (below_drewN (Below.refl w.heap.size w) q2)).at_ hmn
          injection ea with ea
          injection ea with ea1 ea2 _
          subst ea1 ea2
          rw [← hw2.out] at c1 c2
          have t1 := toList_S2 (L.getD j [])
          have t2 := toList_S2 (L.getD m [])
          have HIT : Hid (L.getD m [] = L.getD j [] → TwS L (j : Int)) := fun h => ⟨.inr ⟨j, by rw [HLA.out]; exact hlt, rfl, (mem_take_iff (by rw [HLA.out]; omega) _).2 ⟨m, hlm, h⟩, hall.out⟩⟩
          have HN : Hid (L.getD m [] ≠ L.getD j [] → ∀ i, i < m + 1 → L.getD i [] ≠ L.getD j []) := fun h i hi => by
            rcases Nat.lt_or_ge i m with h3 | h3
            · exact hne.out i h3
            · obtain rfl : i = m := by omega
              exact h
          generalize L.getD j [] = p at *
          generalize L.getD m [] = r at *
          generalize S p = pv at *
          generalize S r = rv at *
          by_cases hpq : r = p
          · have hit := Lib.hid (HIT.out hpq)
            have hq3 : (r == p) = true := by rw [beq_iff_eq]; exact hpq
            clear hpq HN HIT
            go_wp2
            go_region_held3 (fun w' => w'.cell? ⟨b1, o1 + j, none⟩ = some (.string pv) ∧ w'.cell? ⟨b1, o1 + m, none⟩ = some (.string rv)) (go_keep) (fail)
            go_wp2
            go_ret
            rw [hw2.out]
            exact ⟨_, rfl, hit.out, below_drewN (below_drewN (Below.refl _ _) q2) 1⟩
          · have hnx := Lib.hid (HN.out hpq)
            have hq3 : (r == p) = false := by rw [beq_eq_false_iff_ne]; exact hpq
            clear hpq HN HIT
            go_wp2
            go_region_held3 (fun w' => w'.cell? ⟨b1, o1 + j, none⟩ = some (.string pv) ∧ w'.cell? ⟨b1, o1 + m, none⟩ = some (.string rv)) (go_keep) (fail)
            go_wp2
            go_roundw
            case rel => exact ⟨m + 1, q2 + 1, by go_num, by omega, hnx, by unfold Hid; rw [hw2.out]; rfl⟩
            case measure => simp [intOf]; omega
        · have hlmi : ¬ (m : Int) < (j : Int) := by omega
          have hnx : Hid (∀ i, i < j + 1 → L.getD i [] ∉ L.take i) := fun i hi => by
            rcases Nat.lt_or_ge i j with h3 | h3
            · exact hall.out i h3
            · obtain rfl : i = j := by omega
              rw [mem_take_iff (by rw [HLA.out]; omega)]
              rintro ⟨k, hk, e⟩
              exact hne.out k (by omega) e
          go_wp2
          go_roundw
          case rel => exact ⟨j + 1, q2, by go_num, by omega, hnx, hw2.out⟩
          case measure => simp [intOf]; omega
    · have hlti : ¬ (j : Int) < (n : Int) := by omega
      have hfin : Hid (TwS L (-1)) := ⟨.inl ⟨rfl, fun i hi => hall.out i (by rw [HLA.out] at hi; omega)⟩⟩
      go_wp2
      go_ret
      rw [hw.out]
      exact ⟨_, rfl, hfin.out, below_drewN (Below.refl _ _) q⟩
end Go.Proofs.YtcodgamhgfafnaaDoor
