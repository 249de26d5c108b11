/-
  THE CONTRACT OF the unpacker's coded. No conditions.
-/
import Derived.Test.YtbphbogolffanaaDoorInfB
import Derived.Deep.LoopGhost
namespace Go.Proofs.YtbphbogolffanaaDoor
open Go.RowKit
set_option maxRecDepth 100000
set_option linter.unusedVariables false

theorem lxI_le (c : Int) : lxI c ≤ 7 := by
  have : ∀ k, k < 29 → lx k ≤ 7 := by decide +kernel
  unfold lxI
  split
  · exact this _ (by omega)
  · omega
theorem dxI_le (c : Int) : dxI c ≤ 13 := by
  have : ∀ k, k < 30 → dx k ≤ 13 := by decide +kernel
  unfold dxI
  split
  · exact this _ (by omega)
  · omega
theorem lbI_le (c : Int) : lbI c ≤ 258 := by
  unfold lbI
  split
  · have := lb_lt (k := (c - 257).toNat) (by omega); omega
  · omega
theorem dbI_le (c : Int) : dbI c ≤ 24577 := by
  unfold dbI
  split
  · have := db_lt (k := c.toNat) (by omega); omega
  · omega
theorem dbI_pos {c : Int} (h : dokI c = true) : 1 ≤ dbI c := by
  have h1 : 0 ≤ c ∧ c ≤ 29 := of_decide_eq_true h
  unfold dbI
  rw [if_pos h1]
  exact db_pos (by omega)
theorem meantF_ok {l : List F} {b s : Nat} {ok : Bool} {u : Un} {x : Nat × Un} (h : meantF l b s ok u = .ok x) : ok = true := by
  cases ok with
  | false => cases h
  | true => rfl
/-- two tables of codes in memory -/
structure Cds (w : World) (p r : Nat) (a : Option Nat) (q : Nat) (ls ds : List Int) : Prop where
  ex : ∃ q1 q2, Blk w q 78 #[.pointer (some ⟨q1, 0, none⟩), .pointer (some ⟨q2, 0, none⟩)] ∧ Tbl w p r a q1 ls ∧ Tbl w p r a q2 ds
  ne : q ≠ p ∧ q ≠ r ∧ a ≠ some q
theorem Cds.step {w w' : World} {p r : Nat} {a b : Option Nat} {q : Nat} {ls ds : List Int} (h : Cds w p r a q ls ds) (ho : UOut p r a b w w') : Cds w' p r b q ls ds := by
  obtain ⟨q1, q2, h1, h2, h3⟩ := h.ex
  refine ⟨⟨q1, q2, ho.blk h1 h.ne.1 h.ne.2.1 h.ne.2.2, h2.step ho, h3.step ho⟩, h.ne.1, h.ne.2.1, fun e => ?_⟩
  rcases ho.nw with e1 | e1
  · exact h.ne.2.2 (by rw [← e1]; exact e)
  · have := e1 q e
    have := h1.lt
    omega
theorem Tbl.len {w : World} {p r : Nat} {a : Option Nat} {q : Nat} {l : List Int} (h : Tbl w p r a q l) : l.length ≤ 288 := by
  obtain ⟨n, gc, LA, lc, S, h1, _⟩ := h.ex
  have := h1.ok.len
  have := h1.ok.few
  omega
section
variable {w : World} {H p r : Nat} {RA : Option Addr} {len rc : Nat} {l : List F} {A : Option Addr} {n c : Nat} {u : Un} {m : Nat} {x : Value}
set_option maxHeartbeats 2000000 in
theorem coded_c {q : Nat} {ls ds : List Int} (h : UnP w H p r RA len rc l A n c u m x) (hc : Cds w p r (Value.slice A n c).ownBlock q ls ds) :
    Calls Tryd.prog 25 #[.pointer (some ⟨p, 0, none⟩), .pointer (some ⟨q, 0, none⟩)] w fun e w' => Went 24 w p r (Value.slice A n c).ownBlock (codedF l m ls ds u) H RA len rc l m x (.tuple #[]) e w' := by
  have HH := Lib.hid h
  have HC := Lib.hid hc
  clear h hc
  go_enter Tryd.func25, Tryd.ntmps25
  go_wp2
  go_loopg [4] (8 * l.length - u.at_) (fun gk i wr => ∃ (A' : Option Addr) (n' c' : Nat) (uu : Un), Hid (gk = 8 * l.length - uu.at_) ∧ UnP wr H p r RA len rc l A' n' c' uu m x ∧ Cds wr p r (Value.slice A' n' c').ownBlock q ls ds ∧ UOut p r (Value.slice A n c).ownBlock (Value.slice A' n' c').ownBlock w wr ∧ Hid (codedF l m ls ds uu = codedF l m ls ds u))
  case atStart => exact ⟨A, n, c, u, rfl, HH.out, HC.out, UOut.refl _ _ _ _, rfl⟩
  case round =>
    obtain ⟨A', n', c', uu, hgk, hU, hC, hO, hcd⟩ := hrel
    have hle := hU.rd.le
    have hll := hU.len_
    rw [← hll] at hle
    obtain ⟨q1, q2, hq, t1, t2⟩ := hC.ex
    have c0 := hq.cell 0
    simp at c0
    have hsym := sym_c hU t1
    have hlen := t1.len
    have HS := Lib.hid hsym
    have HO := Lib.hid hO
    have HC2 := Lib.hid hC
    have HLE := Lib.hid hle
    clear hsym hU hC hO hq t1 t2 hle hll
    go_wp2_with fail
    refine HS.out.mono ?_
    rintro e w2 (⟨k, h1, rfl, h2⟩ | ⟨s, u1, h1, hs, rfl, h2, h3⟩)
    · have HR : Hid (codedF l m ls ds u = .error k) := by
        unfold Hid
        rw [← hcd.out]
        exact loopF_error (by unfold stepF; rw [h1]; rfl)
      clear h1
      go_wp2
      exact ⟨rfl, .inl ⟨k, HR.out, rfl, _, HO.out.trans h2⟩⟩
    · have hpr := symF_prog h1
      have hC2 := HC2.out.step h3
      have hs288 : s < 288 := by omega
      have HP := Lib.hid hpr
      have H1 := Lib.hid h1
      have HO2 := Lib.hid (HO.out.trans h3)
      clear hpr h1 h3 hs c0 hlen
      by_cases e1 : s < 256
      · have hput := put_c h2 (ofN s)
        rw [ofN_n s e1] at hput
        have HPUT := Lib.hid hput
        have hi : (s : Int) < 256 := by omega
        have hst : Hid (stepF l m ls ds uu = bnd (putF m (ofN s) u1) fun u2 => .ok (false, u2)) := by
          unfold Hid stepF
          rw [H1.out, bnd_ok, if_neg (by show ¬ s = 256; omega), if_pos e1]
        clear hput e1 h2
        go_wp2_with fail
        refine HPUT.out.mono ?_
        rintro e w3 (⟨k, g1, rfl, b, g2⟩ | ⟨u2, A2, n2, c2, g1, rfl, g2, g3⟩)
        · have HR : Hid (codedF l m ls ds u = .error k) := by
            unfold Hid
            rw [← hcd.out]
            exact loopF_error (by rw [hst.out, g1]; rfl)
          clear g1
          go_wp2
          exact ⟨rfl, .inl ⟨k, HR.out, rfl, b, HO2.out.trans g2⟩⟩
        · have hst2 : stepF l m ls ds uu = .ok (false, u2) := by rw [hst.out, g1]; rfl
          have hp2 := stepF_prog HLE.out hst2
          have HR : Hid (codedF l m ls ds u2 = codedF l m ls ds u) := by
            unfold Hid
            rw [← hcd.out]
            exact (loopF_more hst2 hp2.1 hp2.2).symm
          have hm : Hid (8 * l.length - u2.at_ < gk) := by
            have h1 := hp2.1
            have h2 := hp2.2
            have h3 := hgk.out
            unfold Hid
            simp at h1 h2
            omega
          have G2 := Lib.hid g2
          have GC := Lib.hid (hC2.step g3)
          have GO := Lib.hid (HO2.out.trans g3)
          clear hst2 hp2 g1 g2 g3
          go_wp2
          go_roundg (8 * l.length - u2.at_)
          case measure => exact hm.out
          case rel => exact ⟨A2, n2, c2, u2, rfl, G2.out, GC.out, GO.out, HR⟩
      · by_cases e2 : s = 256
        · subst e2
          have HR : Hid (codedF l m ls ds u = .ok u1) := by
            unfold Hid
            rw [← hcd.out]
            exact loopF_done (by unfold stepF; rw [H1.out]; rfl)
          go_wp2
          go_end0
          exact .inr ⟨u1, A', n', c', HR.out, rfl, h2, HO2.out⟩
        · have hne : ((s : Int) == 256) = false := by rw [beq_eq_false_iff_ne]; omega
          have hge : ¬ (s : Int) < 256 := by omega
          have hst : Hid (stepF l m ls ds uu = bnd (matchF l m ds s u1) fun u2 => .ok (false, u2)) := by
            unfold Hid stepF
            rw [H1.out, bnd_ok, if_neg e2, if_neg e1]
          have HLB := Lib.hid (LengthBase_c (s : Int) (wf_nat s (by omega)) w2 h2.tabs)
          have HME := Lib.hid (meant_c h2 (lbI s) (lxI s) (lokI s) (by have := lxI_le s; omega) (by have := lbI_le s; omega))
          have HLX := Lib.hid (And.intro (lxI_le s) (lbI_le s))
          clear e1 e2 h2
          go_wp2_with fail
          refine HLB.out.mono ?_
          rintro e w3 ⟨rfl, rfl⟩
          go_wp2_with fail
          refine HME.out.mono ?_
          rintro e w3 (⟨k, g1, rfl, g2⟩ | ⟨v, u2, g1, hv, rfl, g2, g3⟩)
          · have HR : Hid (codedF l m ls ds u = .error k) := by
              unfold Hid
              rw [← hcd.out]
              exact loopF_error (by rw [hst.out]; unfold matchF; rw [g1]; rfl)
            clear g1
            go_wp2
            exact ⟨rfl, .inl ⟨k, HR.out, rfl, _, HO2.out.trans g2⟩⟩
          · have hC3 := hC2.step g3
            obtain ⟨q1', q2', hq, t1, t2⟩ := hC3.ex
            have c1 := hq.cell 1
            simp at c1
            have HSY := Lib.hid (sym_c g2 t2)
            have hlen2 := t2.len
            have HO3 := Lib.hid (HO2.out.trans g3)
            have HC3 := Lib.hid hC3
            have hkk : lbI s + v ≤ 1000000 := by
              have h1 := HLX.out
              have h2 : 2 ^ lxI s ≤ 2 ^ 7 := Nat.pow_le_pow_right (by decide) h1.1
              have h3 : (2 : Nat) ^ 7 = 128 := rfl
              omega
            obtain ⟨kk, hk⟩ : ∃ kk, kk = lbI s + v := ⟨_, rfl⟩
            rw [← hk] at g1 hkk ⊢
            have G1 := Lib.hid g1
            clear g1 g2 g3 hC3 hC2 hq t1 t2 hk hv
            go_wp2_with fail
            refine HSY.out.mono ?_
            rintro e w4 (⟨k, g1, rfl, g2⟩ | ⟨d, u3, g1, hd, rfl, g2, g3⟩)
            · have HR : Hid (codedF l m ls ds u = .error k) := by
                unfold Hid
                rw [← hcd.out]
                exact loopF_error (by rw [hst.out]; unfold matchF; rw [G1.out, bnd_ok, g1]; rfl)
              clear g1
              go_wp2
              exact ⟨rfl, .inl ⟨k, HR.out, rfl, _, HO3.out.trans g2⟩⟩
            · have HC4 := Lib.hid (HC3.out.step g3)
              have HO4 := Lib.hid (HO3.out.trans g3)
              have HDB := Lib.hid (DistBase_c (d : Int) (wf_nat d (by omega)) w4 g2.tabs)
              have HMD := Lib.hid (meant_c g2 (dbI d) (dxI d) (dokI d) (by have := dxI_le d; omega) (by have := dbI_le d; omega))
              have G3 := Lib.hid g1
              clear g1 g2 g3 hd hlen2
              go_wp2_with fail
              refine HDB.out.mono ?_
              rintro e w5 ⟨rfl, rfl⟩
              go_wp2_with fail
              refine HMD.out.mono ?_
              rintro e w5 (⟨k, g1, rfl, g2⟩ | ⟨v2, u4, g1, hv, rfl, g2, g3⟩)
              · have HR : Hid (codedF l m ls ds u = .error k) := by
                  unfold Hid
                  rw [← hcd.out]
                  exact loopF_error (by rw [hst.out]; unfold matchF; rw [G1.out, bnd_ok, G3.out, bnd_ok]; unfold farF; rw [g1]; rfl)
                clear g1
                go_wp2
                exact ⟨rfl, .inl ⟨k, HR.out, rfl, _, HO4.out.trans g2⟩⟩
              · have HC5 := Lib.hid (HC4.out.step g3)
                have HO5 := Lib.hid (HO4.out.trans g3)
                have hdd : 1 ≤ dbI d + v2 ∧ dbI d + v2 ≤ 1000000 := by
                  have h1 := dxI_le d
                  have h2 : 2 ^ dxI d ≤ 2 ^ 13 := Nat.pow_le_pow_right (by decide) h1
                  have h3 : (2 : Nat) ^ 13 = 8192 := rfl
                  have h4 := dbI_le d
                  have h5 := dbI_pos (meantF_ok g1)
                  omega
                obtain ⟨dd, hk⟩ : ∃ dd, dd = dbI d + v2 := ⟨_, rfl⟩
                rw [← hk] at g1 hdd ⊢
                have HAG := Lib.hid (again_c g2 kk dd hkk hdd.1 hdd.2)
                have hst2 : Hid (stepF l m ls ds uu = bnd (againF m kk dd u4) fun u2 => .ok (false, u2)) := by
                  unfold Hid
                  rw [hst.out]
                  unfold matchF
                  rw [G1.out, bnd_ok, G3.out, bnd_ok]
                  unfold farF
                  rw [g1, bnd_ok]
                clear g1 g2 g3 hv hk
                go_wp2_with fail
                refine HAG.out.mono ?_
                rintro e w6 (⟨k, g1, rfl, b, g2⟩ | ⟨u5, A2, n2, c2, g1, rfl, g2, g3⟩)
                · have HR : Hid (codedF l m ls ds u = .error k) := by
                    unfold Hid
                    rw [← hcd.out]
                    exact loopF_error (by rw [hst2.out, g1]; rfl)
                  clear g1
                  go_wp2
                  exact ⟨rfl, .inl ⟨k, HR.out, rfl, b, HO5.out.trans g2⟩⟩
                · have hst3 : stepF l m ls ds uu = .ok (false, u5) := by rw [hst2.out, g1]; rfl
                  have hp2 := stepF_prog HLE.out hst3
                  have HR : Hid (codedF l m ls ds u5 = codedF l m ls ds u) := by
                    unfold Hid
                    rw [← hcd.out]
                    exact (loopF_more hst3 hp2.1 hp2.2).symm
                  have hm : Hid (8 * l.length - u5.at_ < gk) := by
                    have h1 := hp2.1
                    have h2 := hp2.2
                    have h3 := hgk.out
                    unfold Hid
                    simp at h1 h2
                    omega
                  have G2 := Lib.hid g2
                  have GC := Lib.hid (HC5.out.step g3)
                  have GO := Lib.hid (HO5.out.trans g3)
                  clear hst3 hp2 g1 g2 g3
                  go_wp2
                  go_roundg (8 * l.length - u5.at_)
                  case measure => exact hm.out
                  case rel => exact ⟨A2, n2, c2, u5, rfl, G2.out, GC.out, GO.out, HR⟩
end
end Go.Proofs.YtbphbogolffanaaDoor
