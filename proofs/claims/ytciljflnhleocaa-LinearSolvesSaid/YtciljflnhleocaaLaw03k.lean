/-
  THE DOCUMENT's OWN Reduce OF ROWS: it is what Reduce answers. Rows and columns of at most 2^30.
-/
import Derived.Test.YtciljflnhleocaaLaw03j
namespace Go.Proofs.Ytciljflnhleocaa
open Go.RowKit
set_option maxRecDepth 100000
set_option linter.unusedVariables false

/-- how far it is reduced -/
def RefRes (w w' : World) (n L : Nat) (X : (Nat → Nat → F) × List Nat) (e : Ending) : Prop :=
  ∃ g cg hi P r pc, e = .returned (.tuple #[.slice (some ⟨g, 0, none⟩) n cg, .slice P r pc]) ∧ n ≤ cg ∧ cg ≤ maxLen ∧ Reduced w' w.heap.size w.heap.size hi g n L P r pc X
set_option maxHeartbeats 40000000 in
set_option maxRecDepth 100000 in
theorem RefReduce_yes {w : World} {A : Option Addr} {n cap : Nat} {RA : Nat → Option Addr} {RL RC : Nat → Nat} {R : Nat → List F} (h : MIn w A n cap RA RL RC R) (hr : isR n RL) (cols : Int) (hn : n ≤ 1073741824) (hw : wid n RL ≤ 1073741824) :
    Calls Try.prog 13 #[.slice A n cap, .int .i64 cols] w fun e w' => RefRes w w' n (wid n RL) (redTo (mat R) n (min cols (wid n RL)).toNat) e ∧ Below w.heap.size w w' := by
  obtain ⟨i0, hi0, hz0, hz1, hz2⟩ := info_parts info_int
  obtain ⟨i1, hi1, hy0, hy1, hy2⟩ := info_parts info_bytes
  obtain ⟨C, hC⟩ : ∃ C, wid n RL = C := ⟨_, rfl⟩
  have hall := hr.all
  have HN : Hid (n = 0 → C = 0) := fun e => by rw [← hC, e]; rfl
  rw [hC] at hall hw ⊢
  obtain ⟨T, hT⟩ : ∃ T, (min cols (C : Int)).toNat = T := ⟨_, rfl⟩
  rw [hT]
  have HT : Hid (∀ c : Nat, c < T → (c : Int) < cols ∧ (c : Int) < C) := fun c hc => by omega
  have HT2 : Hid (¬ (T : Int) < cols ∨ ((T : Int) < cols ∧ ¬ (T : Int) < C)) := by unfold Hid; omega
  have HR := Lib.hid (decide_eq_true hr)
  have HL := Lib.hid hall
  clear hr hall hC hT
  go_enter Try.func13, Try.ntmps13
  go_wp2_with (go_at_call 15; refine (right_at true h HR.out).mono ?_; rintro e w' ⟨rfl, q, rfl⟩)
  have hb0 : Below w.heap.size w (w.drewN q) := below_drewN (Below.refl _ _) q
  have hsz0 : Hid ((w.drewN q).heap.size = w.heap.size) := rfl
  clear HR
  generalize w.drewN q = w0 at *
  go_loopw [6, 7] (fun vs i wr => ∃ (k g cg : Nat) (K G : Nat → Nat), k ≤ n ∧ i = .int .i64 k ∧ vs = .slice (some ⟨g, 0, none⟩) k cg ∧ Bld wr w.heap.size g k cg C K G R ∧ Below w.heap.size w wr) (fun _ i _ => n - (intOf i).toNat)
  case atStart =>
    exact ⟨0, _, 0, fun _ => 0, fun _ => 0, by omega, rfl, rfl, ⟨(by
      have h1 := World.ownsRow_made (e := 23) (size := 1) w0 #[] 0 (Nat.le_refl _) (Nat.zero_le _) rfl
      rw [hsz0.out] at h1
      exact h1), fun r hr => by omega, fun r s hr => by omega, fun r hr => by omega, fun r hr => by omega, fun r hr => by omega⟩, hb0.alloc hb0.size _⟩
  case round =>
    obtain ⟨k, g, cg, K, G, hk, rfl, rfl, hB, hbel⟩ := hrel
    by_cases hlt : k < n
    · have hkn : (k : Int) < n := by omega
      have h2 := h.below hbel
      obtain ⟨b1, o1, rfl, _, q1⟩ := h2.at_ hlt
      have hrow := (h2.row k hlt).row
      rw [HL.out k hlt] at q1 hrow
      clear h2
      go_wp2_with fail
      refine (Copy_s _ C (RC k) (R k) wr hrow (by omega)).mono ?_
      rintro e w3 ⟨g3, c3, rfl, hown3, hb3⟩
      have htop3 := own_below hB.top hb3
      have hs3 := hb3.size
      have hs0 := hbel.size
      go_wp2_with (at_builtin; refine wpList_append_lies _ rfl (.tmp 28) (.tmp 34) 22 rfl w.heap.size 23 i1 (.slice none 0 0) 1 24 Try.underlying22 hi1 hy0 hy1 hy2 rfl (by decide) (.slice (some ⟨g, 0, none⟩) k cg) k (topL (fun r => some ⟨G r, 0, none⟩) (fun _ => C) K k) rfl (htop3.alloc _) ⟨w3.heap.size, 0, none⟩ 1 1 [.slice (some ⟨g3, 0, none⟩) C c3] rfl rfl (one_cell w3 _ _) (by intro u hu; simp at hu; subst hu; rfl) (by omega) (by unfold maxLen; omega) (by omega) (by simp; omega) (w3.heap.size + 1) (by simp) ?_; intro g5 c5 w5 hown5 hg5 hat5 hlt5)
      have hB5 := hB.step hb3 hown3 hown5 hg5 hat5 hs0
      have hb5 := ((hbel.trans (hb3.mono hs0)).alloc (by omega) (.cells #[.slice (some ⟨g3, 0, none⟩) C c3] 23)).grown hg5 (by simp; omega) (fun x hx => (htop3.lt x hx).1)
      clear hB hbel hrow hown3 hb3 htop3 hown5 hg5 hat5 hlt5
      go_wp2
      go_roundw
      case rel => exact ⟨k + 1, g5, c5, _, _, by omega, by go_num, rfl, hB5, hb5⟩
      case measure => simp [intOf]; omega
    · obtain rfl : k = n := by omega
      have hM0 := hB.mat
      have hcg := own_caps hB.top
      clear hB
      obtain ⟨W1, rfl⟩ : ∃ W1, W1 = wr := ⟨_, rfl⟩
      obtain ⟨hi, hhi⟩ : ∃ hi, hi = W1.heap.size := ⟨_, rfl⟩
      rw [← hhi] at hM0
      have HHI : Hid (hi ≤ W1.heap.size) := by unfold Hid; omega
      have HHE : Hid (W1.heap.size ≤ hi) := by unfold Hid; omega
      have hs0 := hbel.size
      have hlo := hM0.glo
      clear hhi
      go_wp2
      go_loopw [8, 9] (fun v i wr => ∃ (c r pc : Nat) (P : Option Addr) (K' G' : Nat → Nat), c ≤ T ∧ i = .int .i64 c ∧ v = .slice P r pc ∧ Hid (r = (redTo (mat R) k c).2.length) ∧ wr.ownsRow W1.heap.size 3 1 (.slice P r pc) r (pivC (redTo (mat R) k c).2) ∧ Mat wr w.heap.size hi g k C K' G' (redTo (mat R) k c).1 ∧ Below w.heap.size w wr) (fun _ i _ => T - (intOf i).toNat)
      case atStart =>
        refine ⟨0, 0, 0, _, K, G, by omega, rfl, rfl, rfl, World.ownsRow_made (e := 3) (size := 1) W1 #[] 0 (Nat.le_refl _) (Nat.zero_le _) rfl, ?_, hbel.alloc hs0 _⟩
        exact hM0.below (((Below.refl _ _).alloc (Nat.le_refl _) _).mono HHI.out)
      case round =>
        clear hM0 hbel
        obtain ⟨c, r, pc, P, K', G', hc, rfl, rfl, hrl, hown, hM, hbel⟩ := hrel
        have hrle : r ≤ k := by rw [hrl.out]; exact (redTo_rref _ _ _).len
        by_cases hcT : c < T
        · obtain ⟨hc1, hc2⟩ := HT.out c hcT
          have hcC : c < C := by omega
          have hk0 : 0 < k := by
            rcases Nat.eq_zero_or_pos k with e | e
            · have := HN.out e; omega
            · exact e
          have hk0i : (0 : Int) < k := by omega
          obtain ⟨b0, o0, rfl, _, q0⟩ := (h.below hbel).at_ hk0
          rw [Nat.add_zero, HL.out 0 hk0] at q0
          go_wp2
          go_loop [11] (fun i => ∃ u : Nat, r ≤ u ∧ u ≤ k ∧ i = .int .i64 u ∧ Hid (∀ x, r ≤ x → x < u → (redTo (mat R) k c).1 x c = 0)) (fun i => k - (intOf i).toNat)
          case atStart => exact ⟨r, Nat.le_refl _, hrle, rfl, fun x h1 h2 => by omega⟩
          case round =>
            obtain ⟨u, hu1, hu2, rfl, hz⟩ := hrel
            by_cases hul : u < k
            · have hui : (u : Int) < k := by omega
              have q1 := hM.topAt hul
              have q2 := hM.cellAt hul hcC
              have hb := n_beq ((redTo (mat R) k c).1 u c)
              by_cases hzz : (redTo (mat R) k c).1 u c = 0
              · rw [decide_eq_true hzz] at hb
                have HZ := Lib.hid hzz
                clear hzz
                go_wp2
                go_round
                case rel =>
                  refine ⟨u + 1, by omega, by omega, by go_num, fun x h1 h2 => ?_⟩
                  by_cases e : x = u
                  · subst e; exact HZ.out
                  · exact hz.out x h1 (by omega)
                case measure => simp [intOf]; omega
              · rw [decide_eq_false hzz] at hb
                have hnext : Hid (redTo (mat R) k (c + 1) = (elim (redTo (mat R) k c).1 r u c, (redTo (mat R) k c).2 ++ [c])) := by
                  have h1 := redTo_some (M := mat R) (n := k) (c := c) (up := u) (by rw [← hrl.out]; exact fstNZ_at hu1 hul hzz hz.out)
                  rw [← hrl.out] at h1
                  exact h1
                clear hzz hz
                have hgu : decide ((k : Int) ≤ (u : Int)) = false := by simp; omega
                have hgu2 : decide (k ≤ u) = false := by simp; omega
                have hrk : r < k := by omega
                have hrki : (r : Int) < k := by omega
                have q3 := hM.topAt hrk
                have fz1 := hM.top.frozen u
                have qI := ((hM.rows u hul).setOther (a := ⟨g, u, none⟩) (hM.gne u hul) (.slice (some ⟨G' r, 0, none⟩) C (K' r))).cell hcC
                have hci : (c : Int) < C := by omega
                go_wp2_with fail
                refine (RefInv_c _ _).mono ?_
                rintro e w' ⟨rfl, rfl⟩
                have hg1 := setCell_grown wr g u (.slice (some ⟨G' r, 0, none⟩) C (K' r))
                have htop1 := hM.top.set u (.slice (some ⟨G' r, 0, none⟩) C (K' r))
                have hrows1 : Hid (∀ s, s < k → RowV (wr.setCell ⟨g, u, none⟩ (.slice (some ⟨G' r, 0, none⟩) C (K' r))) (G' s) C fun j => .int .u8 ((redTo (mat R) k c).1 s j).n) := fun s hs => (hM.rows s hs).setOther (a := ⟨g, u, none⟩) (hM.gne s hs) _
                have hpg : ∀ z, (Value.slice P r pc).ownBlock = some z → hi ≤ z := fun z e => Nat.le_trans HHI.out (hown.lt z e).1
                have hown1 := hown.kept hg1 (by
                  cases e : (Value.slice P r pc).ownBlock with
                  | none => exact .inl rfl
                  | some z => right; intro e2; injection e2 with e2; have := hpg z e; omega)
                have hbel1 : Below w.heap.size w (wr.setCell ⟨g, u, none⟩ (.slice (some ⟨G' r, 0, none⟩) C (K' r))) := hbel.setCell (by exact hlo.1) _
                have hsz1 : Hid (wr.heap.size ≤ (wr.setCell ⟨g, u, none⟩ (.slice (some ⟨G' r, 0, none⟩) C (K' r))).heap.size) := hg1.size
                have HM := Lib.hid hM
                clear hM hown hbel hg1 q0 q1 q2 q3 fz1 qI hb hgu hgu2
                generalize wr.setCell ⟨g, u, none⟩ (.slice (some ⟨G' r, 0, none⟩) C (K' r)) = w1 at *
                generalize hX : redTo (mat R) k c = X at *
                generalize hb : inv (X.1 u c) = b at *
                have HB := Lib.hid hb
                have HX := Lib.hid hX
                clear hb hX
                go_wp2
                go_loopw [14] (fun j wr2 => ∃ p : Nat, p ≤ C ∧ j = .int .i64 p ∧ RowV wr2 (G' u) C (fun x => .int .u8 (if x < p then X.1 u x * b else X.1 u x).n) ∧ Out (G' u) (G' u + 1) w1 wr2) (fun j _ => C - (intOf j).toNat)
                case atStart => exact ⟨0, by omega, rfl, (hrows1.out u hul).congr fun x hx => by rw [if_neg (by omega)], Out.refl _ _ _⟩
                case round =>
                  obtain ⟨p, hp, rfl, hru, ho⟩ := hrel
                  by_cases hpC : p < C
                  · have hpi : (p : Int) < C := by omega
                    have q4 := hru.cell hpC
                    rw [if_neg (by omega)] at q4
                    have fz4 := hru.frozen p
                    have hru2 := hru.set p (.int .u8 (X.1 u p * b).n)
                    have ho2 := ho.trans (Out.self (setCell_grown wr (G' u) p (.int .u8 (X.1 u p * b).n)))
                    have HRU := Lib.hid hru2
                    have HO := Lib.hid ho2
                    clear hru hru2 ho ho2
                    go_wp2_with (go_at_call 45; refine (RefMul_c _ _ _).mono ?_; rintro e w' ⟨rfl, rfl⟩)
                    go_roundw
                    case rel =>
                      refine ⟨p + 1, by omega, by go_num, HRU.out.congr fun x hx => ?_, HO.out⟩
                      by_cases e : x = p
                      · subst e; rw [if_pos rfl, if_pos (by omega)]
                      · rw [if_neg e]
                        by_cases e2 : x < p
                        · rw [if_pos e2, if_pos (by omega)]
                        · rw [if_neg e2, if_neg (by omega)]
                    case measure => simp [intOf]; omega
                  · obtain rfl : C = p := by omega
                    have hru2 : RowV wr (G' u) C (fun x => .int .u8 (X.1 u x * b).n) := hru.congr fun x hx => by rw [if_pos hx]
                    have hrow2 : Hid (∀ s, s < k → s ≠ u → RowV wr (G' s) C fun j => .int .u8 (X.1 s j).n) := fun s hs hne => ho.rowV (hrows1.out s hs) (by
                      have h1 : G' s ≠ G' u := fun e => hne (HM.out.inj s u hs hul e)
                      omega)
                    have htop2 := ho.rowV htop1 (by have h1 := HM.out.gne u hul; omega)
                    have hgu := HM.out.rlo u hul
                    have hown2 := ho.own hown1 (by have := HHI.out; omega)
                    have hbel2 : Below w.heap.size w wr := hbel1.trans ((ho.below (Nat.le_of_lt (hrows1.out u hul).lt)).mono hgu.1)
                    have hsz2 := Nat.le_trans hsz1.out ho.size
                    have fz5 := htop2.frozen r
                    obtain ⟨Z5, hZ5⟩ : ∃ Z, wr.cell? ⟨g, r, none⟩ = some Z := ⟨_, htop2.cell hrk⟩
                    have hg3 := setCell_grown wr g r (.slice (some ⟨G' u, 0, none⟩) C (K' u))
                    have hM3 : Mat (wr.setCell ⟨g, r, none⟩ (.slice (some ⟨G' u, 0, none⟩) C (K' u))) w.heap.size hi g k C (swp K' r u) (swp G' r u) (scM X.1 r u c) :=
                      HM.out.retop2 hrk hul (Nat.le_trans hsz2 hg3.size) (fun s hs => by
                        by_cases e : s = u
                        · subst e
                          simp only [if_pos]
                          rw [HB.out]
                          exact hru2.setOther (a := ⟨g, r, none⟩) (HM.out.gne s hs) _
                        · simp only [if_neg e]
                          exact (hrow2.out s hs e).setOther (a := ⟨g, r, none⟩) (HM.out.gne s hs) _)
                        ((htop2.set r (.slice (some ⟨G' u, 0, none⟩) C (K' u))).congr fun s hs => by
                          unfold swp
                          by_cases e : s = r
                          · rw [if_pos e, if_pos e, if_pos e]
                          · rw [if_neg e, if_neg e, if_neg e]
                            by_cases e2 : s = u
                            · rw [if_pos e2, if_pos e2, if_pos e2]
                            · rw [if_neg e2, if_neg e2, if_neg e2])
                    have hown3 := hown2.kept hg3 (by
                      cases e : (Value.slice P r pc).ownBlock with
                      | none => exact .inl rfl
                      | some z => right; intro e2; injection e2 with e2; have := hpg z e; omega)
                    have hbel3 : Below w.heap.size w (wr.setCell ⟨g, r, none⟩ (.slice (some ⟨G' u, 0, none⟩) C (K' u))) := hbel2.setCell (by exact hlo.1) _
                    have hG2 : swp G' r u r = G' u := if_pos rfl
                    have HG2 := Lib.hid hG2
                    have HM3 := Lib.hid hM3
                    clear hru hru2 ho hrow2 htop2 hown2 hbel2 hsz2 hg3 htop1 hrows1 hown1 hbel1 hsz1 hM3 hG2 hgu
                    go_wp2
                    have hM3 := HM3.out
                    generalize wr.setCell ⟨g, r, none⟩ (.slice (some ⟨G' u, 0, none⟩) C (K' u)) = w3 at *
                    generalize hM1 : scM X.1 r u c = M1 at *
                    have HM1 := Lib.hid hM1
                    generalize swp K' r u = K2 at *
                    generalize swp G' r u = G2 at *
                    clear hM1 HM3
                    go_loopw [15] (fun i wr2 => ∃ z : Nat, z ≤ k ∧ i = .int .i64 z ∧ Mat wr2 w.heap.size hi g k C K2 G2 (elTo M1 r c z) ∧ Out w.heap.size hi w3 wr2) (fun i _ => k - (intOf i).toNat)
                    case atStart => exact ⟨0, by omega, rfl, by rw [elTo_zero]; exact hM3, Out.refl _ _ _⟩
                    case round =>
                      clear hM3 fz5 hZ5
                      obtain ⟨z, hz, rfl, hMz, hoz⟩ := hrel
                      by_cases hzk : z < k
                      · have hzi : (z : Int) < k := by omega
                        have q1 := hMz.topAt hzk
                        have q2 := hMz.cellAt hzk hcC
                        rw [elTo_here] at q2
                        have hC0 : (0 : Int) < C := by omega
                        obtain ⟨W2, rfl⟩ : ∃ W2, W2 = wr := ⟨_, rfl⟩
                        have HMZ := Lib.hid hMz
                        have HOZ := Lib.hid hoz
                        have hst : RowV W2 (G2 z) C (fun x => .int .u8 (M1 z x).n) := by
                          have h1 := hMz.rows z hzk
                          rw [elTo_here] at h1
                          exact h1
                        have hrr : Hid (RowV W2 (G2 r) C (fun x => .int .u8 (M1 r x).n)) := by
                          have h1 := hMz.rows r hrk
                          rw [elTo_row] at h1
                          exact h1
                        clear hMz hoz
                        go_wp2
                        go_loopw [17] (fun j wr3 => ∃ p : Nat, p ≤ C ∧ (z = r → p = 0) ∧ j = .int .i64 p ∧ RowV wr3 (G2 z) C (fun x => .int .u8 (if x < p then M1 z x + M1 z c * M1 r x else M1 z x).n) ∧ Out (G2 z) (G2 z + 1) W2 wr3) (fun j _ => C - (intOf j).toNat)
                        case atStart => exact ⟨0, by omega, fun _ => rfl, rfl, hst.congr fun x hx => by rw [if_neg (by omega)], Out.refl _ _ _⟩
                        case round =>
                          clear q1 q2 hst
                          obtain ⟨p, hp, hp0, rfl, hru, ho⟩ := hrel
                          by_cases hzr : z = r
                          · have hp0' := hp0 hzr
                            subst hp0'
                            have hzri : ((z : Int) != (r : Int)) = false := by rw [hzr]; simp
                            have hMn : Mat wr w.heap.size hi g k C K2 G2 (elTo M1 r c (z + 1)) := (HMZ.out.change hzk ho.toGrown (hru.congr (g := fun x => .int .u8 (M1 z x).n) fun x hx => by rw [if_neg (by omega)])).congr fun s hs j hj => by
                              rw [hzr, elTo_pos]
                              by_cases e : s = r
                              · rw [if_pos e, e, elTo_row]
                              · rw [if_neg e]
                            have hon : Out w.heap.size hi w3 wr := HOZ.out.trans (ho.wide (HMZ.out.rlo z hzk))
                            have HMN := Lib.hid hMn
                            have HON := Lib.hid hon
                            clear hMn hon hru ho hp0
                            go_wp2
                            go_roundw
                            case rel => exact ⟨z + 1, by omega, by go_num, HMN.out, HON.out⟩
                            case measure => simp [intOf]; omega
                          · have hzri : ((z : Int) != (r : Int)) = true := by rw [bne_iff_ne]; omega
                            by_cases hpC : p < C
                            · have hpi : (p : Int) < C := by omega
                              have hgz : G2 r ≠ G2 z := fun e => hzr (HMZ.out.inj r z hrk hzk e).symm
                              have q5 := hru.cell hpC
                              rw [if_neg (by omega)] at q5
                              have q6 := (ho.rowV hrr.out (by omega)).cell hpC
                              rw [HG2.out] at q6
                              have hgg := HMZ.out.gne z hzk
                              have q7 := (ho.rowV HMZ.out.top (by omega)).cell hzk
                              have fz6 := hru.frozen p
                              have hx6 := bits_xor (M1 z p) (M1 z c * M1 r p)
                              have HRU := Lib.hid (hru.set p (.int .u8 (M1 z p + M1 z c * M1 r p).n))
                              have HO := Lib.hid (ho.trans (Out.self (setCell_grown wr (G2 z) p (.int .u8 (M1 z p + M1 z c * M1 r p).n))))
                              clear hru ho hgz hp0
                              go_wp2
                              go_region_with ((go_at_call 45; refine (RefMul_c _ _ _).mono ?_; rintro e w' ⟨rfl, rfl⟩))
                              all_goals
                                go_wp2
                                go_roundw
                                case rel =>
                                  refine ⟨p + 1, by omega, fun e => absurd e hzr, by go_num, (HRU.out.congr fun x hx => ?_).drew, HO.out.trans ⟨rfl, rfl, rfl, Nat.le_refl _, fun _ _ _ => rfl⟩⟩
                                  by_cases e : x = p
                                  · subst e; rw [if_pos rfl, if_pos (by omega)]
                                  · rw [if_neg e]
                                    by_cases e2 : x < p
                                    · rw [if_pos e2, if_pos (by omega)]
                                    · rw [if_neg e2, if_neg (by omega)]
                                case measure => simp [intOf]; omega
                            · obtain rfl : C = p := by omega
                              have hpi : ¬ (C : Int) < C := by omega
                              have hMn : Mat wr w.heap.size hi g k C K2 G2 (elTo M1 r c (z + 1)) := (HMZ.out.change hzk ho.toGrown (hru.congr (g := fun x => .int .u8 (M1 z x + M1 z c * M1 r x).n) fun x hx => by rw [if_pos hx])).congr fun s hs j hj => by
                                rw [elTo_next M1 hzr]
                              have hon : Out w.heap.size hi w3 wr := HOZ.out.trans (ho.wide (HMZ.out.rlo z hzk))
                              have HMN := Lib.hid hMn
                              have HON := Lib.hid hon
                              clear hMn hon hru ho hp0
                              go_wp2
                              go_roundw
                              case rel => exact ⟨z + 1, by omega, by go_num, HMN.out, HON.out⟩
                              case measure => simp [intOf]; omega
                      · obtain rfl : k = z := by omega
                        have hnx2 : Hid ((redTo (mat R) k (c + 1)).2 = X.2 ++ [c]) := by unfold Hid; rw [hnext.out]
                        have hM4 : Mat wr w.heap.size hi g k C K2 G2 (redTo (mat R) k (c + 1)).1 := hMz.congr fun i hi j _ => by
                          rw [hnext.out, ← HM1.out]
                          exact elim_el X.1 i hi j
                        have hown4 := hoz.own hown3 HHI.out
                        have hbel4 := hbel3.trans (hoz.below hbel3.size)
                        have hle4 := hM4.hle
                        have hHE := HHE.out
                        have HM4 := Lib.hid hM4
                        have HB4 := Lib.hid hbel4
                        have hs4 := hbel4.size
                        clear hMz hoz hown3 hbel3 hM4 hbel4
                        go_wp2_with (at_builtin; refine wpList_append_own _ rfl (.tmp 157) (.tmp 159) 26 rfl W1.heap.size 3 i0 (.int .i64 0) 1 8 Try.underlying26 hi0 hz0 hz1 hz2 rfl (by decide) (.slice P r pc) r (pivC X.2) rfl (hown4.alloc _) ⟨wr.heap.size, 0, none⟩ 1 1 [.int .i64 c] rfl rfl (one_cell wr _ _) (by intro u hu; simp at hu; subst hu; rfl) (by unfold maxLen; omega) (by omega) (by simp; omega) ?_; intro v5 w5 hown5 hgrow5 hnil5)
                        rw [← pivC_append, ← hnx2.out] at hown5
                        obtain ⟨P5, c5, rfl, -⟩ := own_shape hown5
                        have hM5 : Mat w5 w.heap.size hi g k C K2 G2 (redTo (mat R) k (c + 1)).1 := by
                          have hb := ((Below.refl wr.heap.size wr).alloc (Nat.le_refl _) (.cells #[.int .i64 (c : Int)] 3)).mono hle4
                          exact HM4.out.below (hb.grown hgrow5 (by simp; omega) (fun z e => Nat.le_trans HHI.out (hown4.lt z e).1))
                        have hbel5 : Below w.heap.size w w5 := (HB4.out.alloc (by omega) _).grown hgrow5 (by simp; omega) (fun z e => by have := (hown4.lt z e).1; omega)
                        have hr2 : Hid (r + 1 = (redTo (mat R) k (c + 1)).2.length) := by
                          unfold Hid
                          rw [hnx2.out, List.length_append, ← hrl.out]
                          rfl
                        clear hown4 hgrow5 hnil5 HM4 HB4
                        go_wp2
                        go_roundw
                        case rel => exact ⟨c + 1, r + 1, c5, P5, K2, G2, by omega, by go_num, rfl, hr2, hown5, hM5, hbel5⟩
                        case measure => simp [intOf]; omega
            · obtain rfl : u = k := by omega
              have hnext : Hid (redTo (mat R) u (c + 1) = redTo (mat R) u c) := redTo_none (by rw [← hrl.out]; exact fstNZ_empty hz.out)
              clear hz
              go_wp2
              go_roundw
              case rel => exact ⟨c + 1, r, pc, P, K', G', by omega, by go_num, rfl, by rw [hnext.out]; exact hrl, by rw [hnext.out]; exact hown, by rw [hnext.out]; exact hM, hbel⟩
              case measure => simp [intOf]; omega
        · obtain rfl : c = T := by omega
          rcases Nat.eq_zero_or_pos k with hk0 | hk0
          · subst hk0
            go_wp2
            go_ret2
            exact ⟨⟨g, cg, hi, P, r, pc, rfl, hcg.1, hcg.2, Reduced.mono ⟨K', G', hrl, hown, hM⟩ hs0⟩, hbel⟩
          · have hk0i : (0 : Int) < k := by omega
            obtain ⟨b0, o0, rfl, _, q0⟩ := (h.below hbel).at_ hk0
            rw [Nat.add_zero, HL.out 0 hk0] at q0
            rcases HT2.out with hx | ⟨hx1, hx2⟩
            all_goals
              go_wp2
              go_ret2
              exact ⟨⟨g, cg, hi, P, r, pc, rfl, hcg.1, hcg.2, Reduced.mono ⟨K', G', hrl, hown, hM⟩ hs0⟩, hbel⟩
end Go.Proofs.Ytciljflnhleocaa
