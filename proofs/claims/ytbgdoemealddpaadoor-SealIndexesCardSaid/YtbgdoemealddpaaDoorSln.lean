/-
  SEALS: the document's Parse. Rows of at most 1000 bytes.
-/
import Derived.Test.YtbgdoemealddpaaDoorSlm
namespace Go.Proofs.YtbgdoemealddpaaDoor
open Go.RowKit
set_option maxRecDepth 100000
set_option linter.unusedVariables false

theorem info_sd : (Tryd.prog.info? 38).map (·.size) = some 6 := by kernel_rfl
theorem ld_sd {w : World} {g : Nat} {C : Array Value} (h : Blk w g 38 C) (hC : C.size = 6) : Sem.run Tryd.prog (loadVar 38 ⟨g, 0, none⟩) w = .ok (.agg C) w :=
  run_loadVar_row w g _ _ _ (0, 0) _ h Tryd.underlying38 rfl (by rw [info_sd, hC])
theorem st_sd {w : World} {g : Nat} {C : Array Value} (h : Blk w g 38 C) (hC : C.size = 6) (D : Array Value) (hD : D.size = 6) (h1 : D.all (·.oneCell') = true) :
    Sem.run Tryd.prog (storeVar 38 ⟨g, 0, none⟩ (.agg D)) w = .ok () (w.setRow g D) :=
  run_storeVar_row w g _ _ _ _ h (by rw [info_sd, hD]) (by rw [hC, hD]) h1
theorem Get_d24 {w : World} {A : Option Addr} {n : Nat} {l : List F} (h : Row w A n l) (c : Nat) :
    Calls Tryd.prog 54 #[.slice A n c] w fun e w' => e = .returned (.int .u64 (getL (l.take 8))) ∧ w = w' := RefGet_c A n c l w h
set_option maxHeartbeats 1000000 in
theorem at24_c {w : World} {b o n c : Nat} {l : List F} (h : RowIn w (some ⟨b, o, none⟩) n c l) (f s : Nat) (z zs : Int) (hz : z = (f : Int)) (hzs : zs = (s : Int)) (h0 : 0 < s) (hs : s ≤ 4) (hf : f + s ≤ n) (hn : n ≤ 1000) :
    Calls Tryd.prog 43 #[.slice (some ⟨b, o, none⟩) n c, .int .i64 z, .int .i64 zs] w fun e w' => e = .returned (.int .i64 (atL l f s : Nat)) ∧ w = w' := by
  subst hz hzs
  have hcap := h.le
  have hc : ¬ c = f := by omega
  have h1 : (f : Int) ≤ (f : Int) + (s : Int) := by omega
  have h2 : (f : Int) + (s : Int) ≤ (c : Int) := by omega
  have h3 : (0 : Int) ≤ (f : Int) := by omega
  have s1 : IntKind.i64.wrap ((f : Int) + (s : Int)) = (f : Int) + (s : Int) := IntWalk.i64_in _ (by omega)
  have hv := atL_lt l f s (by omega)
  have hv4 : 256 ^ s ≤ 256 ^ 4 := Nat.pow_le_pow_right (by omega) hs
  have u1 : IntKind.i64.wrap (atL l f s : Int) = (atL l f s : Int) := IntWalk.i64_in _ (by omega)
  have hsub : f + s - f = s := by omega
  have HG := Lib.hid (Get_d24 (h.row.from_ (p := f) (m := s) hf) (c - f))
  have hgv : getL (((l.drop f).take s).take 8) = atL l f s := rfl
  rw [hgv] at HG
  generalize atL l f s = v at *
  clear hv hv4 hgv h
  go_enter Tryd.func43, Tryd.ntmps43
  go_wp2_with (go_at_call 54; refine HG.out.mono ?_; rintro e w' ⟨rfl, rfl⟩)
  go_ret
  exact ⟨rfl, rfl⟩
/-- while the document's sums are told -/
structure PdS (w W : World) (g5 v2 v3 v5 v6 v4 : Nat) (l : List F) (Q r : Nat) (A : Option Addr) (c : Nat) (RA : Nat → Option Addr) (RC : Nat → Nat) : Prop where
  box : Blk W g5 38 #[.int .i64 (v2 : Nat), .int .i64 (v3 : Nat), .int .i64 (v5 : Nat), .int .i64 (v6 : Nat), .int .i64 (v4 : Nat), .slice A r c]
  res : Blk W w.heap.size 38 #[.int .i64 0, .int .i64 0, .int .i64 0, .int .i64 0, .int .i64 0, .slice none 0 0]
  rws : GRws W (g5 + 1) A r c (g5 + 1) RA (fun _ => Q) RC (tdR (l.drop 20) Q)
  lo : w.heap.size < g5
  bel : Below w.heap.size w W
theorem PdS.below {w W W' : World} {g5 v2 v3 v5 v6 v4 : Nat} {l : List F} {Q r : Nat} {A : Option Addr} {c : Nat} {RA : Nat → Option Addr} {RC : Nat → Nat} (h : PdS w W g5 v2 v3 v5 v6 v4 l Q r A c RA RC) (hb : Below W.heap.size W W') : PdS w W' g5 v2 v3 v5 v6 v4 l Q r A c RA RC :=
  ⟨h.box.below h.box.lt hb, h.res.below h.res.lt hb, h.rws.below hb, h.lo, h.bel.trans (hb.mono h.bel.size)⟩
theorem GRws.setLow {w : World} {base n c lo : Nat} {A : Option Addr} {RA : Nat → Option Addr} {RL RC : Nat → Nat} {R : Nat → List G} (h : GRws w base A n c lo RA RL RC R) {g i : Nat} (h1 : g < base) (h2 : g < lo) (v : Value) : GRws (w.setCell ⟨g, i, none⟩ v) base A n c lo RA RL RC R := by
  refine ⟨h.own.kept (row := some g) ⟨rfl, rfl, rfl, by simp, fun k _ hk => Below.heap_setCell _ _ _ _ (fun e => hk (by simp at e; rw [e]))⟩ ?_, fun r hr => (h.rows r hr).keepS (by simp) (fun b o hn e _ => Below.heap_setCell _ _ _ _ (fun e2 => by have h9 := (h.far r hr hn _ e).1; have h8 : b = g := e2; have h7 : lo ≤ b := h9; omega)), h.cp, h.far⟩
  cases hv : (Value.slice A n c).ownBlock with
  | none => exact .inl rfl
  | some k => exact .inr (fun e => by injection e with e; have := (h.own.lt k hv).1; omega)
theorem tdR_succ (l : List F) {q r j : Nat} (h : j < q) : (tdR l q r).take (j + 1) = (tdR l q r).take j ++ [ofG (atL l (4 * (r * q + j)) 4)] := by
  rw [List.take_succ_eq_append_getElem (by rw [tdR_length]; exact h)]
  simp [tdR]
end Go.Proofs.YtbgdoemealddpaaDoor
