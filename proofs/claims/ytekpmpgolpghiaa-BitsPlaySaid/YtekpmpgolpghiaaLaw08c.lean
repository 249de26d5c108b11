/-
  LAW 08's WALK: BitsPlay: it returns true, and writes nothing that was there. No conditions.
-/
import Derived.Test.YtekpmpgolpghiaaLaw08b
import Derived.Test.YtekpmpgolpghiaaRef8b
namespace Go.Proofs.Ytekpmpgolpghiaa
open Go.RowKit
set_option maxRecDepth 100000
set_option linter.unusedVariables false

theorem Row.wout {w w' : World} {p n : Nat} {a b : Option Nat} {E : Option Addr} {l : List F} (h : Row w E n l) (ho : WOut p a b w w') (hE : ∀ x o, E = some ⟨x, o, none⟩ → x ≠ p ∧ a ≠ some x) : Row w' E n l := by
  refine ⟨h.1, h.2.1, fun hn => ?_⟩
  obtain ⟨x, o, e, hl, hc⟩ := h.2.2 hn
  refine ⟨x, o, e, Nat.lt_of_lt_of_le hl ho.size, fun i hi => ?_⟩
  obtain ⟨h1, h2⟩ := hE x o e
  rw [World.cell?_of_block (a := ⟨x, o + i, none⟩) (ho.block x hl h1 h2)]
  exact hc i hi
/-- the document's row, and the writer, lie apart -/
def Apart (p : Nat) (D : Option Addr) (len cap : Nat) (E : Option Addr) : Prop := ∀ x o, E = some ⟨x, o, none⟩ → x ≠ p ∧ (Value.slice D len cap).ownBlock ≠ some x
theorem Apart.own {w : World} {p len cap n X c m base : Nat} {D E : Option Addr} {e : TypeId} {Y : List Bool} {xs : List Value} {w0 : World} (hW : Wr w0 p D len cap n Y) (ho : w.ownsRow base e 1 (.slice E m c) m xs) (hb : w0.heap.size ≤ base) : Apart p D len cap E := fun x o h => by
  have h1 := own_ne ho (p := p) (Nat.lt_of_lt_of_le hW.lt hb) x o h
  refine ⟨h1, fun h2 => ?_⟩
  have h3 := hW.alt x h2
  rcases ho.2 with ⟨hv, _⟩ | ⟨g, cap', cur, hv, hbg, _⟩
  · injection hv with hv; rw [hv] at h; cases h
  · injection hv with hv; rw [hv] at h; injection h with h; injection h with h; omega
/-- append, at a step of a region that draws its order -/
theorem step_append_own {P : Program} {w : World} {ops : Array Oper} {o : Oper} {a : Act} {K : Act → World → Prop} {Q : Exit → Act → World → Prop} {G : Prop} (hgd : o.guard = none) (s x : Operand) (t : TypeId)
    (ho : o.op = .call { callee := .builtin .append, args := #[s, x], argTypes := #[t, t] })
    (base : Nat) (e : TypeId) (i : TypeInfo) (z : Value) (size bytes : Nat) (ht : P.underlying t = some (.slice e)) (hi : P.info? e = some i) (hz : i.zero = some z)
    (hsize : i.size = size) (hby : i.bytes = bytes) (hzs : z.cells.size = size) (hsz : 0 < size)
    (v : Value) (n : Nat) (xs : List Value) (hs : a.eval s = v) (hown : w.ownsRow base e size v n xs)
    (ad : Addr) (m c : Nat) (news : List Value) (hx : a.eval x = .slice (some ad) m c) (hl : news.length = m * size) (hnews : ∀ j u, news[j]? = some u → w.cell? (ad.add j) = some u) (h1 : ∀ u ∈ news, u.oneCell' = true)
    (h63 : n + m ≤ maxLen) (hbytes : (n + m) * bytes ≤ 140737488355328) (hbase : base ≤ w.heap.size) (h1s : size = 1)
    (h : ∀ A c' w', w'.ownsRow base e 1 (.slice A (n + m) c') (n + m) (xs ++ news) → w.grownBy w' v.ownBlock → K (a.put o.dst (.slice A (n + m) c')) w') :
    if Region.wanted o (yielded ops a.tmps) = true then Oper.wp P o a w K Q else G := by
  subst h1s
  have hw : Region.wanted o (yielded ops a.tmps) = true := by simp [Region.wanted, hgd]
  rw [if_pos hw]
  refine wp_append_own w s x t ho base e i z 1 bytes ht hi hz hsize hby hzs hsz v n xs hs hown ad m c news hx hl hnews h1 h63 hbytes hbase fun v' w' h2 h3 _ => ?_
  obtain ⟨A, c', rfl, _⟩ := own_shape h2
  exact h A c' w' h2 h3
theorem Blk.wout {w w' : World} {p g : Nat} {a b : Option Nat} {t : TypeId} {C : Array Value} (h : Blk w g t C) (ho : WOut p a b w w') (hp : g ≠ p) (ha : a ≠ some g) : Blk w' g t C := by
  have hl : g < w.heap.size := (Array.getElem?_eq_some_iff.1 h).1
  unfold Blk at h ⊢
  rw [ho.block g hl hp ha]
  exact h
set_option maxHeartbeats 4000000 in
theorem walk_BitsPlay (w : World) (A : Option Addr) (n ca : Nat) (K V N : Nat → Int) (BA : Nat → Option Addr) (BL BC : Nat → Nat) (BB : Nat → List F) (h : OpsIn w A n K V N BA BL BC BB) :
    Calls Try.prog 6 #[.slice A n ca] w fun e w' => e = .returned (.bool true) ∧ Below w.heap.size w w' := by
  obtain ⟨i0, hi, hz0, hz1, hz2⟩ := info_parts info_u8
  have hnm := h.nmax
  by_cases hf : (∀ i, i < n → BL i ≤ 20) ∧ n ≤ 40
  · have hd : Hid (decide ((∀ i, i < n → BL i ≤ 20) ∧ n ≤ 40) = true) := decide_eq_true hf
    have hn40 : n ≤ 40 := hf.2
    have hBL := Lib.hid hf.1
    clear hf
    go_enter Try.func6, Try.ntmps6
    go_wp2_with (first
      | (go_at_call 26; refine (alive08_c _).mono ?_; rintro e w1 ⟨rfl, hb1⟩)
      | (go_at_call 27; refine (few_c _ _ _ _ _ _ _ _ _ _ _ (h.below hb1)).mono ?_; rw [hd.out]; rintro e w2 ⟨rfl, hb2⟩))
    have hW0 := (Wr.zero w2 _ rfl).below ((Below.refl _ _).alloc (Nat.le_refl _) (.cells #[] 5))
    have h2 := (h.below hb1).below hb2
    have hbw := hb1.trans (hb2.mono hb1.size)
    have hC0 : Below w2.heap.size w2 ((w2.alloc (.cells #[.slice none 0 0, .int .i64 0] 47)).alloc (.cells #[] 5)) := ((Below.refl _ w2).alloc (Nat.le_refl _) _).alloc (by simp) _
    obtain ⟨p, hp⟩ : ∃ p, p = w2.heap.size := ⟨_, rfl⟩
    have hpw : w2.heap.size ≤ p := by omega
    rw [← hp] at hW0 ⊢
    have HP := Lib.hid hpw
    clear hp hpw h hb1 hb2 hd
    go_loopw [4, 15] (fun x i wr => ∃ (k len cap m c : Nat) (D E : Option Addr) (X : List Bool), k ≤ n ∧ i = .int .i64 k ∧ x = .slice E m c ∧ Wr wr p D len cap m X ∧ Row wr E m (bc X) ∧ Apart p D len cap E ∧ m ≤ 200 * k ∧ Below w2.heap.size w2 wr) (fun _ i _ => n - (intOf i).toNat)
    case atStart => exact ⟨0, 0, 0, 0, 0, none, _, [], by omega, rfl, rfl, hW0, Row.nil _ _, fun x o e => ⟨by injection e with e; injection e with e; omega, fun h => by cases h⟩, by omega, hC0⟩
    case round =>
      obtain ⟨k, len, cap, m, c, D, E, X, hk, rfl, rfl, hW, hE, hS, hm, hC⟩ := hrel
      by_cases hlt : k < n
      · have hkn : (k : Int) < n := by omega
        obtain ⟨b, off, rfl, c0, c1, c2, c3⟩ := (h2.below hC).at_ hlt
        obtain ⟨v, hv, ev⟩ := num32_of (h2.wf k hlt).2.1
        rw [ev] at c1
        have hsz := hC.size
        have hBk := hBL.out k hlt
        have hal : Below wr.heap.size wr (wr.alloc (.cells #[.int .i64 (K k), .int .u32 v, .int .i64 (N k), .slice (BA k) (BL k) (BC k)] 50)) := (Below.refl _ wr).alloc (Nat.le_refl _) _
        have hWo := hW.below hal
        have hEo := hE.below hal
        have hCo := hC.alloc hsz (.cells #[.int .i64 (K k), .int .u32 v, .int .i64 (N k), .slice (BA k) (BL k) (BC k)] 50)
        have hrow := ((h2.row k hlt).below hC).below hal
        have hob : Blk (wr.alloc (.cells #[.int .i64 (K k), .int .u32 v, .int .i64 (N k), .slice (BA k) (BL k) (BC k)] 50)) wr.heap.size 50 #[.int .i64 (K k), .int .u32 v, .int .i64 (N k), .slice (BA k) (BL k) (BC k)] := Blk.new _ _ _
        have hop : wr.heap.size ≠ p := by have := hW.lt; omega
        have hoD : (Value.slice D len cap).ownBlock ≠ some wr.heap.size := fun e => by have := hW.alt _ e; omega
        clear hW hE hC ev
        rcases (show K k = 0 ∨ K k = 1 ∨ K k = 2 ∨ K k = 3 ∨ K k = 4 ∨ (K k ≠ 0 ∧ K k ≠ 1 ∧ K k ≠ 2 ∧ K k ≠ 3 ∧ K k ≠ 4) by omega) with hK | hK | hK | hK | hK | hK
        · have kb0 : (K k == 0) = true := by rw [hK]; rfl
          have hp1 := PutB_c hWo v hv (N k) (by omega)
          have HP1 := Lib.hid hp1
          have hh := heldN_le (N k) 32
          clear hp1 hK
          go_wp2_with fail
          refine HP1.out.mono ?_
          rintro e w3 ⟨rfl, D3, len3, cap3, hW3, hO3⟩
          have hE3 := hEo.wout hO3 hS
          have hC3 := hCo.trans (hO3.low HP.out hWo.lt hWo.alo)
          have d1 := (hob.wout hO3 hop hoD).cell 1
          have d2 := (hob.wout hO3 hop hoD).cell 2
          simp at d1 d2
          go_wp2_with fail
          refine (RefPutB_c E m c X _ hE3 (by omega) v hv (N k)).mono ?_
          rintro e w4 ⟨E4, c4, rfl, hown4, hb4⟩
          have hW := hW3.below hb4
          have hE := (own_in hown4).row
          have hS := Apart.own (X := 0) hW3 hown4 (Nat.le_refl _)
          have hC := hC3.trans (hb4.mono hC3.size)
          have hlen : Hid ((m + heldN (N k) 32 + 7) / 8 = len3) := by unfold Hid; rw [hW.hl.out, ← hW.hn.out]
          clear hWo hEo hCo hO3 hE3 hC3 hW3 hown4 hb4 hob d1 d2
          have hlt := hW.alt
          go_wp2_with (first
            | (go_at_call 36; refine (LenB_c hW).mono ?_; rintro e _ ⟨rfl, rfl⟩)
            | (go_at_call 37; refine (DoneB_c hW).mono ?_; rintro e w5 ⟨A5, c5, rfl, hown5, hb5⟩; have hW5 := hW.below hb5; have hE5 := hE.below hb5)
            | (go_at_call 38; refine (RefPack_c _ _ _ _ _ hE5 (by omega)).mono ?_; rintro e w6 ⟨A6, c6, n6, rfl, hn6, hown6, hb6⟩; have hW6 := hW5.below hb6; have hE6 := hE5.below hb6; have r5 := (own_in hown5).row.below hb6; obtain rfl := (hn6.out.trans hlen.out))
            | (go_at_call 14; refine (Same_c _ _ _ _ _ _ _ _ r5 (own_in hown6).row rfl).mono ?_; rintro e w7 ⟨rfl, q7, rfl⟩))
          go_roundw
          case rel => exact ⟨k + 1, _, _, _, _, _, _, _, by omega, by go_num, rfl, hW6.drewN q7, hE6.drewN q7, hS, by omega, below_drewN ((hC.trans (hb5.mono hC.size)).trans (hb6.mono (by have := hC.size; have := hb5.size; omega))) q7⟩
          case measure => simp [intOf]; omega
        · have kb0 : (K k == 0) = false := by rw [hK]; rfl
          have kb1 : (K k == 1) = true := by rw [hK]; rfl
          have hp1 := PutB_c hWo v hv (N k) (by omega)
          have HP1 := Lib.hid hp1
          have hh := heldN_le (N k) 32
          clear hp1 hK
          go_wp2_with fail
          refine HP1.out.mono ?_
          rintro e w3 ⟨rfl, D3, len3, cap3, hW3, hO3⟩
          have hE3 := hEo.wout hO3 hS
          have hC3 := hCo.trans (hO3.low HP.out hWo.lt hWo.alo)
          have d1 := (hob.wout hO3 hop hoD).cell 1
          have d2 := (hob.wout hO3 hop hoD).cell 2
          simp at d1 d2
          go_wp2_with fail
          refine (RefPutB_c E m c X _ hE3 (by omega) v hv (N k)).mono ?_
          rintro e w4 ⟨E4, c4, rfl, hown4, hb4⟩
          have hW := hW3.below hb4
          have hE := (own_in hown4).row
          have hS := Apart.own (X := 0) hW3 hown4 (Nat.le_refl _)
          have hC := hC3.trans (hb4.mono hC3.size)
          have hlen : Hid ((m + heldN (N k) 32 + 7) / 8 = len3) := by unfold Hid; rw [hW.hl.out, ← hW.hn.out]
          clear hWo hEo hCo hO3 hE3 hC3 hW3 hown4 hb4 hob d1 d2
          have hlt := hW.alt
          go_wp2_with (first
            | (go_at_call 36; refine (LenB_c hW).mono ?_; rintro e _ ⟨rfl, rfl⟩)
            | (go_at_call 37; refine (DoneB_c hW).mono ?_; rintro e w5 ⟨A5, c5, rfl, hown5, hb5⟩; have hW5 := hW.below hb5; have hE5 := hE.below hb5)
            | (go_at_call 38; refine (RefPack_c _ _ _ _ _ hE5 (by omega)).mono ?_; rintro e w6 ⟨A6, c6, n6, rfl, hn6, hown6, hb6⟩; have hW6 := hW5.below hb6; have hE6 := hE5.below hb6; have r5 := (own_in hown5).row.below hb6; obtain rfl := (hn6.out.trans hlen.out))
            | (go_at_call 14; refine (Same_c _ _ _ _ _ _ _ _ r5 (own_in hown6).row rfl).mono ?_; rintro e w7 ⟨rfl, q7, rfl⟩))
          go_roundw
          case rel => exact ⟨k + 1, _, _, _, _, _, _, _, by omega, by go_num, rfl, hW6.drewN q7, hE6.drewN q7, hS, by omega, below_drewN ((hC.trans (hb5.mono hC.size)).trans (hb6.mono (by have := hC.size; have := hb5.size; omega))) q7⟩
          case measure => simp [intOf]; omega
        · have kb0 : (K k == 0) = false := by rw [hK]; rfl
          have kb1 : (K k == 1) = false := by rw [hK]; rfl
          have kb2 : (K k == 2) = true := by rw [hK]; rfl
          have hp1 := CodeB_c hWo v hv (N k) (by omega)
          have HP1 := Lib.hid hp1
          have hh := heldN_le (N k) 32
          clear hp1 hK
          go_wp2_with fail
          refine HP1.out.mono ?_
          rintro e w3 ⟨rfl, D3, len3, cap3, hW3, hO3⟩
          have hE3 := hEo.wout hO3 hS
          have hC3 := hCo.trans (hO3.low HP.out hWo.lt hWo.alo)
          have d1 := (hob.wout hO3 hop hoD).cell 1
          have d2 := (hob.wout hO3 hop hoD).cell 2
          simp at d1 d2
          go_wp2_with fail
          refine (RefCodeB_c E m c X _ hE3 (by omega) v hv (N k)).mono ?_
          rintro e w4 ⟨E4, c4, rfl, hown4, hb4⟩
          have hW := hW3.below hb4
          have hE := (own_in hown4).row
          have hS := Apart.own (X := 0) hW3 hown4 (Nat.le_refl _)
          have hC := hC3.trans (hb4.mono hC3.size)
          have hlen : Hid ((m + heldN (N k) 32 + 7) / 8 = len3) := by unfold Hid; rw [hW.hl.out, ← hW.hn.out]
          clear hWo hEo hCo hO3 hE3 hC3 hW3 hown4 hb4 hob d1 d2
          have hlt := hW.alt
          go_wp2_with (first
            | (go_at_call 36; refine (LenB_c hW).mono ?_; rintro e _ ⟨rfl, rfl⟩)
            | (go_at_call 37; refine (DoneB_c hW).mono ?_; rintro e w5 ⟨A5, c5, rfl, hown5, hb5⟩; have hW5 := hW.below hb5; have hE5 := hE.below hb5)
            | (go_at_call 38; refine (RefPack_c _ _ _ _ _ hE5 (by omega)).mono ?_; rintro e w6 ⟨A6, c6, n6, rfl, hn6, hown6, hb6⟩; have hW6 := hW5.below hb6; have hE6 := hE5.below hb6; have r5 := (own_in hown5).row.below hb6; obtain rfl := (hn6.out.trans hlen.out))
            | (go_at_call 14; refine (Same_c _ _ _ _ _ _ _ _ r5 (own_in hown6).row rfl).mono ?_; rintro e w7 ⟨rfl, q7, rfl⟩))
          go_roundw
          case rel => exact ⟨k + 1, _, _, _, _, _, _, _, by omega, by go_num, rfl, hW6.drewN q7, hE6.drewN q7, hS, by omega, below_drewN ((hC.trans (hb5.mono hC.size)).trans (hb6.mono (by have := hC.size; have := hb5.size; omega))) q7⟩
          case measure => simp [intOf]; omega
        · have kb0 : (K k == 0) = false := by rw [hK]; rfl
          have kb1 : (K k == 1) = false := by rw [hK]; rfl
          have kb2 : (K k == 2) = false := by rw [hK]; rfl
          have kb3 : (K k == 3) = true := by rw [hK]; rfl
          clear hK
          have h8 := hWo.at8
          go_wp2_with fail
          refine (AlignB_c hWo).mono ?_
          rintro e w3 ⟨rfl, hW3, hO3⟩
          have hE3 := hEo.wout hO3 hS
          have hC3 := hCo.trans (hO3.low HP.out hWo.lt hWo.alo)
          go_wp2_with fail
          refine (RefAlignB_c E m c X _ hE3 (by omega)).mono ?_
          rintro e w4 ⟨E4, c4, n4, rfl, hn4, hown4, hb4⟩
          obtain rfl : n4 = 8 * len := by rw [hn4.out, hW3.hl.out, alB_length]; have := hWo.hn.out; omega
          have hW := hW3.below hb4
          have hE := (own_in hown4).row
          have hS := Apart.own (X := 0) hW3 hown4 (Nat.le_refl _)
          have hC := hC3.trans (hb4.mono hC3.size)
          have hlen : Hid ((8 * len + 7) / 8 = len) := by unfold Hid; omega
          clear hWo hEo hCo hO3 hE3 hC3 hW3 hown4 hb4 hob hn4
          have hlt := hW.alt
          go_wp2_with (first
            | (go_at_call 36; refine (LenB_c hW).mono ?_; rintro e _ ⟨rfl, rfl⟩)
            | (go_at_call 37; refine (DoneB_c hW).mono ?_; rintro e w5 ⟨A5, c5, rfl, hown5, hb5⟩; have hW5 := hW.below hb5; have hE5 := hE.below hb5)
            | (go_at_call 38; refine (RefPack_c _ _ _ _ _ hE5 (by omega)).mono ?_; rintro e w6 ⟨A6, c6, n6, rfl, hn6, hown6, hb6⟩; have hW6 := hW5.below hb6; have hE6 := hE5.below hb6; have r5 := (own_in hown5).row.below hb6; obtain rfl := (hn6.out.trans hlen.out))
            | (go_at_call 14; refine (Same_c _ _ _ _ _ _ _ _ r5 (own_in hown6).row rfl).mono ?_; rintro e w7 ⟨rfl, q7, rfl⟩))
          go_roundw
          case rel => exact ⟨k + 1, _, _, _, _, _, _, _, by omega, by go_num, rfl, hW6.drewN q7, hE6.drewN q7, hS, by omega, below_drewN ((hC.trans (hb5.mono hC.size)).trans (hb6.mono (by have := hC.size; have := hb5.size; omega))) q7⟩
          case measure => simp [intOf]; omega
        · have kb0 : (K k == 0) = false := by rw [hK]; rfl
          have kb1 : (K k == 1) = false := by rw [hK]; rfl
          have kb2 : (K k == 2) = false := by rw [hK]; rfl
          have kb3 : (K k == 3) = false := by rw [hK]; rfl
          have kb4 : (K k == 4) = true := by rw [hK]; rfl
          clear hK
          have h8 := hWo.at8
          go_wp2_with fail
          refine (BytesB_c hWo (BA k) (BL k) (BC k) (BB k) hrow.row (by omega)).mono ?_
          rintro e w3 ⟨rfl, D3, len3, cap3, hW3, hO3⟩
          have hE3 := hEo.wout hO3 hS
          have hC3 := hCo.trans (hO3.low HP.out hWo.lt hWo.alo)
          have hr3 := (((h2.row k hlt).below hC3)).row
          have d3 := (hob.wout hO3 hop hoD).cell 3
          simp at d3
          have hlo := (Array.getElem?_eq_some_iff.1 (hob.wout hO3 hop hoD)).1
          go_wp2
          have hRL := (h2.row k hlt).row.len
          have HRL := Lib.hid hRL
          have hl8 : Hid (len = (m + 7) / 8) := by unfold Hid; rw [hWo.hl.out, ← hWo.hn.out]
          have hsz3 := hO3.size
          clear hRL c0 c1 c2 c3 hob hal
          go_region_held3 (fun w' => w'.cell? ⟨wr.heap.size, 3, none⟩ = some (.slice (BA k) (BL k) (BC k)))
            (first
              | go_keep
              | (rw [hb5.cell (p := ⟨wr.heap.size, 3, none⟩) (Nat.lt_of_lt_of_le hlo hb4.size)]; assumption)
              | (rw [hb4.cell (p := ⟨wr.heap.size, 3, none⟩) hlo]; assumption)
              | (rw [hg6.cell_far ⟨wr.heap.size, 3, none⟩ (Nat.lt_of_lt_of_le (Nat.lt_of_lt_of_le hlo hb4.size) hb5.size) (fun e => by have := (hown4.lt _ e.symm).1; simp at this; omega)]; assumption))
            (first
              | (go_at_call 33; refine (RefAlignB_c E m c X _ (hE3.drew) (by omega)).mono ?_; rintro e w4 ⟨E4, c4, n4, rfl, hn4, hown4, hb4⟩; obtain rfl : n4 = 8 * len := by rw [hn4.out]; have := hl8.out; omega)
              | (go_at_call 35; refine (RefBits_c (BA k) (BL k) (BC k) (BB k) _ (hr3.drew.below hb4) (by omega)).mono ?_; rintro e w5 ⟨g5, c5, rfl, hown5, hb5⟩)
              | (refine step_append_own (by rfl) (.tmp 59) (.tmp 62) _ (by rfl) w3.drew.heap.size 5 i0 _ 1 1 Try.underlying23 hi hz0 hz1 hz2 rfl (by omega) (.slice E4 (8 * len) c4) (8 * len) (cs (bc (alB X))) (by rfl) (own_below hown4 hb5) ⟨g5, 0, none⟩ (8 * BL k) c5 (cs (bc (bitsOf (BB k)))) (by rfl) (by rw [cs_length, bc_length, bitsOf_length, HRL.out, Nat.mul_one]) ((own_in hown5).row.cells) (cs_one _) (by unfold maxLen; omega) (by omega) (Nat.le_trans hb4.size hb5.size) rfl ?_; intro E6 c6 w6 hown6 hg6))
          have hB36 : Below w3.heap.size w3 w6 := (((Below.refl w3.heap.size w3).drew.trans (hb4.mono (Nat.le_refl _))).trans (hb5.mono hb4.size)).grown hg6 (Nat.le_trans hb4.size hb5.size) (fun x hx => (hown4.lt x hx).1)
          have hW := hW3.below hB36
          have hS := Apart.own (X := 0) hW3 hown6 (Nat.le_refl _)
          have hC := hC3.trans (hB36.mono hC3.size)
          rw [← cs_append] at hown6
          have hE := (own_in hown6).row
          rw [← bc_append] at hE
          have hlen : Hid ((8 * len + 8 * BL k + 7) / 8 = len3) := by unfold Hid; rw [hW.hl.out, ← hW.hn.out]
          clear hWo hEo hCo hO3 hE3 hC3 hW3 hown4 hown5 hown6 hb4 hb5 hg6 hB36 hrow hr3 d3 hlo hn4
          have hlt := hW.alt
          go_wp2_with (first
            | (go_at_call 36; refine (LenB_c hW).mono ?_; rintro e _ ⟨rfl, rfl⟩)
            | (go_at_call 37; refine (DoneB_c hW).mono ?_; rintro e w5 ⟨A5, c5, rfl, hown5, hb5⟩; have hW5 := hW.below hb5; have hE5 := hE.below hb5)
            | (go_at_call 38; refine (RefPack_c _ _ _ _ _ hE5 (by omega)).mono ?_; rintro e w6 ⟨A6, c6, n6, rfl, hn6, hown6, hb6⟩; have hW6 := hW5.below hb6; have hE6 := hE5.below hb6; have r5 := (own_in hown5).row.below hb6; obtain rfl := (hn6.out.trans hlen.out))
            | (go_at_call 14; refine (Same_c _ _ _ _ _ _ _ _ r5 (own_in hown6).row rfl).mono ?_; rintro e w7 ⟨rfl, q7, rfl⟩))
          go_roundw
          case rel => exact ⟨k + 1, _, _, _, _, _, _, _, by omega, by go_num, rfl, hW6.drewN q7, hE6.drewN q7, hS, by omega, below_drewN ((hC.trans (hb5.mono hC.size)).trans (hb6.mono (by have := hC.size; have := hb5.size; omega))) q7⟩
          case measure => simp [intOf]; omega
        · have kb0 : (K k == 0) = false := by rw [Bool.eq_false_iff, ne_eq, beq_iff_eq]; omega
          have kb1 : (K k == 1) = false := by rw [Bool.eq_false_iff, ne_eq, beq_iff_eq]; omega
          have kb2 : (K k == 2) = false := by rw [Bool.eq_false_iff, ne_eq, beq_iff_eq]; omega
          have kb3 : (K k == 3) = false := by rw [Bool.eq_false_iff, ne_eq, beq_iff_eq]; omega
          have kb4 : (K k == 4) = false := by rw [Bool.eq_false_iff, ne_eq, beq_iff_eq]; omega
          clear hK
          have hW := hWo
          have hE := hEo
          have hC := hCo
          have hlen : Hid ((m + 7) / 8 = len) := by unfold Hid; rw [hW.hl.out, ← hW.hn.out]
          clear hWo hEo hCo hob
          have hlt := hW.alt
          go_wp2_with (first
            | (go_at_call 36; refine (LenB_c hW).mono ?_; rintro e _ ⟨rfl, rfl⟩)
            | (go_at_call 37; refine (DoneB_c hW).mono ?_; rintro e w5 ⟨A5, c5, rfl, hown5, hb5⟩; have hW5 := hW.below hb5; have hE5 := hE.below hb5)
            | (go_at_call 38; refine (RefPack_c _ _ _ _ _ hE5 (by omega)).mono ?_; rintro e w6 ⟨A6, c6, n6, rfl, hn6, hown6, hb6⟩; have hW6 := hW5.below hb6; have hE6 := hE5.below hb6; have r5 := (own_in hown5).row.below hb6; obtain rfl := (hn6.out.trans hlen.out))
            | (go_at_call 14; refine (Same_c _ _ _ _ _ _ _ _ r5 (own_in hown6).row rfl).mono ?_; rintro e w7 ⟨rfl, q7, rfl⟩))
          go_roundw
          case rel => exact ⟨k + 1, _, _, _, _, _, _, _, by omega, by go_num, rfl, hW6.drewN q7, hE6.drewN q7, hS, by omega, below_drewN ((hC.trans (hb5.mono hC.size)).trans (hb6.mono (by have := hC.size; have := hb5.size; omega))) q7⟩
          case measure => simp [intOf]; omega
      · obtain rfl : k = n := by omega
        go_wp2
        go_ret
        exact ⟨rfl, hbw.trans (hC.mono hbw.size)⟩
  · have hd : Hid (decide ((∀ i, i < n → BL i ≤ 20) ∧ n ≤ 40) = false) := decide_eq_false hf
    clear hf
    go_enter Try.func6, Try.ntmps6
    go_wp2_with (first
      | (go_at_call 26; refine (alive08_c _).mono ?_; rintro e w1 ⟨rfl, hb1⟩)
      | (go_at_call 27; refine (few_c _ _ _ _ _ _ _ _ _ _ _ (h.below hb1)).mono ?_; rw [hd.out]; rintro e w2 ⟨rfl, hb2⟩))
    go_ret
    exact ⟨rfl, hb1.trans (hb2.mono hb1.size)⟩
end Go.Proofs.Ytekpmpgolpghiaa
