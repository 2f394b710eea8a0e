import Derived.Test.YtldongbimhngfaaAt1
import Derived.Deep.RegionWith
namespace Go.Proofs.Ytldongbimhngfaa
open Go.RowKit
set_option linter.unusedVariables false
set_option linter.unusedSimpArgs false

/-- four digits, as a text -/
def hexS (v : Int) : ByteArray := ⟨(hex4 v.toNat).toArray⟩
theorem hexS_size (v : Int) : (hexS v).size = 4 := hex_size v.toNat 4
theorem hexS_list (v : Int) : (hexS v).data.toList = hex4 v.toNat := rfl
theorem hexS_any (w : World) (v : Int) (h0 : 0 ≤ v) (h1 : v < 65536) : Calls Try.prog 20 #[.int .i64 v] w fun e w' => e = .returned (.string (hexS v)) ∧ w' = w := hex_any w v h0 h1

theorem relOk_short {ll : Nat} {z : Nat → Int} {k : Nat} (hk : k < 2) (y : Int) (y0 : 0 ≤ y) (y1 : y < 65536) :
    RelOk ⟨(recB ll z 10).toArray⟩ ⟨#[if k = 0 then 110 else 104]⟩ (hexS y) (wd ll z k : Int) y := by
  intro op hop
  have hw := rec_word ll z k (by omega)
  have hb := wd_lt ll z k
  have hir : Sv.isRel (op.toNat : Int) = true := by rcases hop with rfl | rfl | rfl <;> rfl
  have hy : ((y.toNat : Nat) : Int) = y := by omega
  have hkk : k = 0 ∨ k = 1 := by omega
  rcases hkk with rfl | rfl
  · refine ⟨[⟨4, 0, 0, 65535, Sv.relCode op.toNat, 0, (y.toNat : Int)⟩], ?_, ?_⟩
    · have := cond_one (term_n (v := y.toNat) hop (by omega)) (by simp) rfl
      exact this
    · rw [hN_one rfl, Sv.cmp_short _ 0 _ _ (by have := hw; simp at this; rw [this]; omega) (by have := hw; simp at this; rw [this]; omega) hir]
      have hw0 : Sv.wordAt ⟨(recB ll z 10).toArray⟩ 0 = (wd ll z 0 : Int) := by simpa using hw
      rw [hw0, hy]
  · refine ⟨[⟨4, 2, 0, 65535, Sv.relCode op.toNat, 0, (y.toNat : Int)⟩], ?_, ?_⟩
    · have := cond_one (term_h (v := y.toNat) hop (by omega)) (by simp) rfl
      exact this
    · have hw0 : Sv.wordAt ⟨(recB ll z 10).toArray⟩ 2 = (wd ll z 1 : Int) := by simpa using hw
      rw [hN_one rfl, Sv.cmp_short _ 2 _ _ (by rw [hw0]; omega) (by rw [hw0]; omega) hir]
      rw [hw0, hy]

set_option maxRecDepth 100000 in
set_option maxHeartbeats 4000000 in
theorem atoms_hi (w : World) (lr : Option Addr) (nr cr : Nat) (zr : Nat → Int) (wh c hg mk : Int) (hR : RawRow w w.heap.size lr nr zr) (mr : nr ≤ maxLen)
    (w0 : -9223372036854775808 ≤ wh) (w1 : wh ≤ 9223372036854775807) (c0 : -9223372036854775808 ≤ c) (c1 : c ≤ 9223372036854775807) (k : Nat) (hk : k < 2) (hi : pk wh 6 = (k : Int) + 4) :
    Calls Try.prog 5 #[.int .i64 wh, .slice lr nr cr, .int .i64 c, .int .i64 hg, .int .i64 mk] w fun e w' => e = .returned (.bool true) ∧ Below w.heap.size w w' := by
  have hRc := record_any w lr nr cr zr hR mr
  have hP6 := fun w => pick_any w wh 6 w0 w1 (by omega) (by omega)
  rw [hi] at hP6
  have hnb := nz_bd hR k
  have hPn := fun w => pick_any w (nz nr zr k) 65536 hnb.1 hnb.2 (by omega) (by omega)
  rw [nz_wd] at hPn
  have hwd := wd_lt nr zr k
  have hnr := nearV_range (wd nr zr k : Int) c 65536 (by omega)
  have hNear := fun w => near_any w (wd nr zr k : Int) c 65536 (by omega) (by omega) c0 c1 (by omega) (by omega)
  have hRel := relOk_short (ll := nr) (z := zr) hk (nearV (wd nr zr k : Int) c 65536) hnr.1 hnr.2
  have HRel := hid hRel
  have hr20 := hid (rec_size nr zr)
  have HR := hid hR
  have x0 : (0 : Int) ≤ (wd nr zr k : Int) := by omega
  have x1 : (wd nr zr k : Int) ≤ 65535 := by omega
  obtain ⟨y0, y1⟩ := hnr
  clear hR hRel hnb hwd hi
  generalize nearV (wd nr zr k : Int) c 65536 = y at *
  generalize (wd nr zr k : Int) = x at *
  generalize hrr : (⟨(recB nr zr 10).toArray⟩ : ByteArray) = r at *
  clear hrr
  have hX := hid (fun w => hexS_any w y y0 y1)
  have hxs : (hexS y).size ≤ 10 := by rw [hexS_size]; omega
  have hkk : k = 0 ∨ k = 1 := by omega
  rcases hkk with rfl | rfl
  · have q0 : IntKind.i64.wrap 0 = 0 := by decide
    have q1 : IntKind.i64.wrap 1 = 1 := by decide
    have q2 : IntKind.i64.wrap 2 = 2 := by decide
    go_enter Try.func5, Try.ntmps5
    go_wp2_with fail
    refine hRc.mono ?_
    rintro e w2 ⟨rfl, hg2⟩
    clear hRc
    go_wp2_with fail
    refine (hP6 _).mono ?_
    rintro e w3 ⟨rfl, hw⟩
    subst hw
    clear hP6
    have hNum := numberK_any w3 lr nr cr zr 0 (HR.out.later hg2) mr (by omega)
    have Hg := hid hg2
    clear hg2
    go_wp2_with fail
    refine hNum.mono ?_
    rintro e w4 ⟨rfl, hw⟩
    subst hw
    clear hNum
    go_wp2_with fail
    refine (hPn _).mono ?_
    rintro e w5 ⟨rfl, hw⟩
    subst hw
    clear hPn
    go_wp2_with fail
    refine (hNear _).mono ?_
    rintro e w6 ⟨rfl, hw⟩
    subst hw
    clear hNear
    have hRl := hid (fun w => relatedK_any w ⟨#[110]⟩ (hexS y) r x y (by decide) hxs hr20.out HRel.out)
    go_wp2_with fail
    go_region_with (first | (go_at_call 20; refine (hX.out _).mono ?_; rintro e w' ⟨rfl, rfl⟩) | (go_at_call 23; refine (hRl.out _).mono ?_; rintro e w' ⟨rfl, hgc⟩))
    all_goals
      go_wp2_with fail
      go_ret
      exact ⟨rfl, gb_below (gb_trans (gb_drew Hg.out) hgc)⟩
  · have q0 : IntKind.i64.wrap 0 = 0 := by decide
    have q1 : IntKind.i64.wrap 1 = 1 := by decide
    have q2 : IntKind.i64.wrap 2 = 2 := by decide
    go_enter Try.func5, Try.ntmps5
    go_wp2_with fail
    refine hRc.mono ?_
    rintro e w2 ⟨rfl, hg2⟩
    clear hRc
    go_wp2_with fail
    refine (hP6 _).mono ?_
    rintro e w3 ⟨rfl, hw⟩
    subst hw
    clear hP6
    have hNum := numberK_any w3 lr nr cr zr 1 (HR.out.later hg2) mr (by omega)
    have Hg := hid hg2
    clear hg2
    go_wp2_with fail
    refine hNum.mono ?_
    rintro e w4 ⟨rfl, hw⟩
    subst hw
    clear hNum
    go_wp2_with fail
    refine (hPn _).mono ?_
    rintro e w5 ⟨rfl, hw⟩
    subst hw
    clear hPn
    go_wp2_with fail
    refine (hNear _).mono ?_
    rintro e w6 ⟨rfl, hw⟩
    subst hw
    clear hNear
    have hRl := hid (fun w => relatedK_any w ⟨#[104]⟩ (hexS y) r x y (by decide) hxs hr20.out HRel.out)
    go_wp2_with fail
    go_region_with (first | (go_at_call 20; refine (hX.out _).mono ?_; rintro e w' ⟨rfl, rfl⟩) | (go_at_call 23; refine (hRl.out _).mono ?_; rintro e w' ⟨rfl, hgc⟩))
    all_goals
      go_wp2_with fail
      go_ret
      exact ⟨rfl, gb_below (gb_trans (gb_drew Hg.out) hgc)⟩
end Go.Proofs.Ytldongbimhngfaa
