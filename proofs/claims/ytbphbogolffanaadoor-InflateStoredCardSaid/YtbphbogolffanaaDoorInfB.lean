/-
  THE CONTRACTS OF the unpacker's meant and again. No conditions.
-/
import Derived.Test.YtbphbogolffanaaDoorInfA
namespace Go.Proofs.YtbphbogolffanaaDoor
open Go.RowKit
set_option maxRecDepth 100000
set_option linter.unusedVariables false

/-- gone on, or given up with a panic -/
def Went (T : TypeId) (w : World) (p r : Nat) (a : Option Nat) (R : Except Nat Un) (H : Nat) (RA : Option Addr) (len rc : Nat) (l : List F) (m : Nat) (x : Value) (v : Value) (e : Ending) (w' : World) : Prop :=
  (∃ k, R = .error k ∧ e = .panicked [{ v := .iface T (.int .i64 k), recovered := false }] ∧ ∃ b, UOut p r a b w w') ∨
  (∃ u' A' n' c', R = .ok u' ∧ e = .returned v ∧ UnP w' H p r RA len rc l A' n' c' u' m x ∧ UOut p r a (Value.slice A' n' c').ownBlock w w')
section
variable {w : World} {H p r : Nat} {RA : Option Addr} {len rc : Nat} {l : List F} {A : Option Addr} {n c : Nat} {u : Un} {m : Nat} {x : Value}
theorem meant_c (h : UnP w H p r RA len rc l A n c u m x) (b s : Nat) (ok : Bool) (hs : s ≤ 32) (hb : b ≤ 40000) :
    Calls Tryd.prog 41 #[.pointer (some ⟨p, 0, none⟩), .int .i64 b, .int .i64 s, .bool ok] w fun e w' =>
      (∃ k, meantF l b s ok u = .error k ∧ e = .panicked [{ v := .iface 24 (.int .i64 k), recovered := false }] ∧ UOut p r (Value.slice A n c).ownBlock (Value.slice A n c).ownBlock w w') ∨
      (∃ v u', meantF l b s ok u = .ok (b + v, u') ∧ v < 2 ^ s ∧ e = .returned (.int .i64 ((b + v : Nat) : Int)) ∧ UnP w' H p r RA len rc l A n c u' m x ∧ UOut p r (Value.slice A n c).ownBlock (Value.slice A n c).ownBlock w w') := by
  cases ok with
  | false =>
    have HF : Hid (meantF l b s false u = .error 34) := rfl
    clear h
    go_enter Tryd.func41, Tryd.ntmps41
    go_wp2
    exact ⟨rfl, .inl ⟨34, HF.out, rfl, UOut.refl _ _ _ _⟩⟩
  | true =>
    cases hf : numF l s u with
    | error k =>
      have HF : Hid (meantF l b s true u = .error k) := by unfold Hid meantF; rw [if_pos rfl, hf]; rfl
      have HN := Lib.hid (num_no h s hs hf)
      clear h hf
      go_enter Tryd.func41, Tryd.ntmps41
      go_wp2_with (go_at_call 23; refine HN.out.mono ?_; rintro e w' ⟨rfl, hO⟩)
      exact ⟨rfl, .inl ⟨k, HF.out, rfl, hO⟩⟩
    | ok y =>
      obtain ⟨v, u'⟩ := y
      have HF : Hid (meantF l b s true u = .ok (b + v, u')) := by unfold Hid meantF; rw [if_pos rfl, hf]; rfl
      have hv : v < 2 ^ s := by
        obtain ⟨_, e⟩ := numF_inv hf
        injection e with e _
        rw [e]
        exact numB_lt _ _ _
      have hp : 2 ^ s ≤ 2 ^ 32 := Nat.pow_le_pow_right (by decide) hs
      have e32 : (2 : Nat) ^ 32 = 4294967296 := rfl
      have hv2 : v < 4294967296 := by omega
      have HV := Lib.hid hv
      have HN := Lib.hid (num_ok h s hs hf)
      have hsum : Hid ((b : Int) + (v : Int) = ((b + v : Nat) : Int)) := by unfold Hid; omega
      clear h hf hv hp e32
      go_enter Tryd.func41, Tryd.ntmps41
      go_wp2_with (go_at_call 23; refine HN.out.mono ?_; rintro e w' ⟨rfl, hU, hO⟩)
      go_ret
      rw [hsum.out]
      exact .inr ⟨v, u', HF.out, HV.out, rfl, hU, hO⟩
theorem put_c (h : UnP w H p r RA len rc l A n c u m x) (v : F) :
    Calls Tryd.prog 40 #[.pointer (some ⟨p, 0, none⟩), .int .u8 v.n] w fun e w' => Went 24 w p r (Value.slice A n c).ownBlock (putF m v u) H RA len rc l m x (.tuple #[]) e w' := by
  cases hf : putF m v u with
  | error k => exact (put_no h v hf).mono fun e w' ⟨h1, h2⟩ => .inl ⟨k, rfl, h1, _, h2⟩
  | ok u' => exact (put_ok h v hf).mono fun e w' ⟨h1, A', n', c', h2, h3⟩ => .inr ⟨u', A', n', c', rfl, h1, h2, h3⟩
set_option maxHeartbeats 1000000 in
theorem again_c (h : UnP w H p r RA len rc l A n c u m x) (k d : Nat) (hk : k ≤ 1000000) (hd : 1 ≤ d) (hd2 : d ≤ 1000000) :
    Calls Tryd.prog 43 #[.pointer (some ⟨p, 0, none⟩), .int .i64 k, .int .i64 d] w fun e w' => Went 24 w p r (Value.slice A n c).ownBlock (againF m k d u) H RA len rc l m x (.tuple #[]) e w' := by
  have hl := h.out_
  have hfew := h.few
  have c1 := h.blk.cell 1
  simp at c1
  by_cases hfar : n < d
  · have HF : Hid (againF m k d u = .error 35) := by unfold Hid againF; rw [if_pos (by omega)]
    have hi : (n : Int) < (d : Int) := by omega
    clear h hl hfar
    go_enter Tryd.func43, Tryd.ntmps43
    go_wp2
    exact ⟨rfl, .inl ⟨35, HF.out, rfl, _, UOut.refl _ _ _ _⟩⟩
  · have HF : Hid (againF m k d u = agF m d k u) := by unfold Hid againF; rw [if_neg (by omega)]
    have hi : ¬ (n : Int) < (d : Int) := by omega
    have HH := Lib.hid h
    clear h hl
    go_enter Tryd.func43, Tryd.ntmps43
    go_wp2
    go_loopw [15] (fun i wr => ∃ (j : Nat) (A' : Option Addr) (n' c' : Nat) (uu : Un), j ≤ k ∧ i = .int .i64 j ∧ d ≤ n' ∧ UnP wr H p r RA len rc l A' n' c' uu m x ∧ UOut p r (Value.slice A n c).ownBlock (Value.slice A' n' c').ownBlock w wr ∧ Hid (agF m d (k - j) uu = agF m d k u)) (fun i _ => k - (intOf i).toNat)
    case atStart => exact ⟨0, A, n, c, u, by omega, rfl, by omega, HH.out, UOut.refl _ _ _ _, rfl⟩
    case round =>
      obtain ⟨j, A', n', c', uu, hj, rfl, hdn, hU, hO, hag⟩ := hrel
      by_cases hlt : j < k
      · have hjk : (j : Int) < (k : Int) := by omega
        have hn' := hU.few
        have ho := hU.out_
        obtain ⟨b1, o1, hA1, _, q1⟩ := (own_in hU.own).row.at_ (k := n' - d) (by omega)
        have c1 := hU.blk.cell 1
        simp at c1
        have hst : Hid (agF m d (k - j) uu = bnd (putF m (gt uu.out (n' - d)) uu) (agF m d (k - (j + 1)))) := by
          unfold Hid
          rw [show k - j = k - (j + 1) + 1 by omega, agF, ho]
        have HU := Lib.hid hU
        have HO := Lib.hid hO
        have hsub : IntKind.i64.wrap ((n' : Int) - (d : Int)) = ((n' - d : Nat) : Int) := (IntWalk.i64_in _ (by omega)).trans (by omega)
        have hin : ((n' - d : Nat) : Int) < (n' : Int) := by omega
        have hin0 : (0 : Int) ≤ ((n' - d : Nat) : Int) := by omega
        obtain ⟨y, hy⟩ : ∃ y, y = gt uu.out (n' - d) := ⟨_, rfl⟩
        rw [← hy] at q1 hst
        obtain ⟨z, hz⟩ : ∃ z, z = n' - d := ⟨_, rfl⟩
        rw [← hz] at q1 hsub hin hin0
        have HA := Lib.hid hA1
        subst hA1
        have HF2 := Lib.hid HF.out
        clear hU hO ho hy hz HF
        go_wp2
        go_still_tail 14, (by kernel_rfl)
        go_wp2_with fail
        refine (put_c (HU.out.drewN 1) y).mono ?_
        rintro e w2 hW
        rcases hW with ⟨k2, h1, rfl, b, h2⟩ | ⟨u2, A2, n2, c2, h1, rfl, h2, h3⟩
        · have HR : Hid (againF m k d u = .error k2) := by unfold Hid; rw [HF2.out, ← hag.out, hst.out, h1]; rfl
          clear h1
          go_wp2
          exact ⟨rfl, .inl ⟨k2, HR.out, rfl, b, (HO.out.drewN 1).trans h2⟩⟩
        · have hpi := putF_inv h1
          have ho2 := h2.out_
          have hd3 : d ≤ n2 := by
            have e : u2.out = uu.out ++ [y] := by rw [hpi.2]
            rw [e, List.length_append] at ho2
            have := HU.out.out_
            simp at ho2
            omega
          have HR : Hid (agF m d (k - (j + 1)) u2 = agF m d k u) := by unfold Hid; rw [← hag.out, hst.out, h1]; rfl
          have H3 := Lib.hid ((HO.out.drewN 1).trans h3)
          have H2 := Lib.hid h2
          clear h1 hpi ho2 h2 h3
          go_wp2
          go_roundw
          case rel => exact ⟨j + 1, A2, n2, c2, u2, by omega, by go_num, hd3, H2.out, H3.out, HR⟩
          case measure => simp [intOf]; omega
      · obtain rfl : j = k := by omega
        have HR : Hid (againF m j d u = .ok uu) := by unfold Hid; rw [HF.out, ← hag.out, Nat.sub_self]; rfl
        go_wp2
        go_end0
        exact .inr ⟨uu, A', n', c', HR.out, rfl, hU, hO⟩
end
end Go.Proofs.YtbphbogolffanaaDoor
