/-
  LOCAL HEADERS: how many bytes they have; the document's Check. No conditions (but for the length of a name).
-/
import Derived.Test.YtacllgglpjdobaaDoorLoc
namespace Go.Proofs.YtacllgglpjdobaaDoor
open Go.RowKit
set_option maxRecDepth 100000
set_option linter.unusedVariables false

/-- how many bytes a header has -/
def szH (h : Hd) : Int := 30 + min ((S h.nm).size : Int) 65535 + if grt h then 20 else 0
set_option maxHeartbeats 1000000 in
theorem SizeL_c (h : Hd) (hn : h.nm.length ≤ 1000000) (w : World) : Calls Tryd.prog 18 #[hdV h] w fun e w' => e = .returned (.int .i64 (szH h)) ∧ Below w.heap.size w w' := by
  have HG := Lib.hid (isGreat_c h)
  obtain ⟨g, hg⟩ : ∃ g, g = grt h := ⟨_, rfl⟩
  obtain ⟨v, hv⟩ : ∃ v : Nat, min ((S h.nm).size : Int) 65535 = (v : Int) := ⟨(min ((S h.nm).size : Int) 65535).toNat, by omega⟩
  have hv5 : v ≤ 65535 := by omega
  have HV := Lib.hid hv
  have hz : szH h = 30 + (v : Int) + if g then 20 else 0 := by unfold szH; rw [hv, hg]
  rw [hz]
  rw [← hg] at HG
  clear hz hg
  obtain ⟨m, ⟨y, mo, d, hh, mi, s⟩, sum, p, z, nm⟩ := h
  unfold hdV hdC at *
  dsimp only at *
  have HB := Lib.hid ((Below.refl w.heap.size w).alloc (Nat.le_refl _) (.cells #[.int .i64 m, .int .i64 y, .int .i64 mo, .int .i64 d, .int .i64 hh, .int .i64 mi, .int .i64 s, .int .u32 sum, .int .u64 p, .int .u64 z, .string (S nm)] 27))
  cases g
  · go_enter Tryd.func18, Tryd.ntmps18
    go_wp2_with fail
    refine (HG.out _).mono ?_
    rintro e w2 ⟨rfl, hb2⟩
    go_wp2
    go_ret
    exact ⟨by simp, HB.out.trans (hb2.mono HB.out.size)⟩
  · go_enter Tryd.func18, Tryd.ntmps18
    go_wp2_with fail
    refine (HG.out _).mono ?_
    rintro e w2 ⟨rfl, hb2⟩
    go_wp2
    go_ret
    exact ⟨by simp, HB.out.trans (hb2.mono HB.out.size)⟩
/-- the error's number of a header -/
def chkH (h : Hd) : Int := if h.m = 0 ∨ h.m = 8 then (if okP h.t then nokE h.nm else 41) else 43
theorem RCheckH_c (h : Hd) (hn : h.nm.length ≤ 1000000) (hy : (Lit.int .i64 h.t.y).wf = true) (w : World) : Calls Tryd.prog 24 #[hdV h] w fun e w' => e = .returned (.int .i64 (chkH h)) ∧ Below w.heap.size w w' := by
  have HR := Lib.hid (RefRight_c h.t hy)
  have HN := Lib.hid (RCheck_c h.nm hn)
  obtain ⟨b, hb⟩ : ∃ b, b = okSt h.t := ⟨_, rfl⟩
  obtain ⟨k, hk⟩ : ∃ k, k = nokE h.nm := ⟨_, rfl⟩
  have hc : chkH h = if h.m = 0 ∨ h.m = 8 then (if b then k else 41) else 43 := by
    unfold chkH
    rw [hb, hk]
    unfold okSt
    simp
  rw [hc]
  rw [← hb] at HR
  rw [← hk] at HN
  clear hc hb hk hn hy
  obtain ⟨m, ⟨y, mo, d, hh, mi, s⟩, sum, p, z, nm⟩ := h
  unfold hdV hdC at *
  unfold stV at HR
  dsimp only at *
  have HB := Lib.hid ((Below.refl w.heap.size w).alloc (Nat.le_refl _) (.cells #[.int .i64 m, .int .i64 y, .int .i64 mo, .int .i64 d, .int .i64 hh, .int .i64 mi, .int .i64 s, .int .u32 sum, .int .u64 p, .int .u64 z, .string (S nm)] 37))
  have HK := Lib.hid (Blk.new w 37 #[.int .i64 m, .int .i64 y, .int .i64 mo, .int .i64 d, .int .i64 hh, .int .i64 mi, .int .i64 s, .int .u32 sum, .int .u64 p, .int .u64 z, .string (S nm)])
  by_cases hm : m = 0 ∨ m = 8
  · rw [if_pos hm]
    have b0 : (m != 0) = !(m == 0) := rfl
    have b8 : (m != 8) = (m == 0) ∨ (m == 0) = true := by rcases hm with rfl | rfl <;> simp
    cases b
    · rcases hm with rfl | rfl
      · go_enter Tryd.func24, Tryd.ntmps24
        go_wp2_with fail
        refine (HR.out _).mono ?_
        rintro e w2 ⟨rfl, hb2⟩
        go_wp2
        go_ret
        exact ⟨rfl, HB.out.trans (hb2.mono HB.out.size)⟩
      · go_enter Tryd.func24, Tryd.ntmps24
        go_wp2_with fail
        refine (HR.out _).mono ?_
        rintro e w2 ⟨rfl, hb2⟩
        go_wp2
        go_ret
        exact ⟨rfl, HB.out.trans (hb2.mono HB.out.size)⟩
    · rcases hm with rfl | rfl
      · go_enter Tryd.func24, Tryd.ntmps24
        go_wp2_with fail
        refine (HR.out _).mono ?_
        rintro e w2 ⟨rfl, hb2⟩
        have c10 := (HK.out.below (by simp) hb2).cell 10
        simp at c10
        go_wp2_with fail
        refine (HN.out _).mono ?_
        rintro e w3 ⟨rfl, hb3⟩
        go_wp2
        go_ret
        exact ⟨rfl, HB.out.trans ((hb2.trans (hb3.mono hb2.size)).mono HB.out.size)⟩
      · go_enter Tryd.func24, Tryd.ntmps24
        go_wp2_with fail
        refine (HR.out _).mono ?_
        rintro e w2 ⟨rfl, hb2⟩
        have c10 := (HK.out.below (by simp) hb2).cell 10
        simp at c10
        go_wp2_with fail
        refine (HN.out _).mono ?_
        rintro e w3 ⟨rfl, hb3⟩
        go_wp2
        go_ret
        exact ⟨rfl, HB.out.trans ((hb2.trans (hb3.mono hb2.size)).mono HB.out.size)⟩
  · rw [if_neg hm]
    have b0 : (m != 0) = true := by rw [bne_iff_ne]; omega
    have b8 : (m != 8) = true := by rw [bne_iff_ne]; omega
    clear hm
    go_enter Tryd.func24, Tryd.ntmps24
    go_wp2
    go_ret
    exact ⟨rfl, HB.out⟩
end Go.Proofs.YtacllgglpjdobaaDoor
