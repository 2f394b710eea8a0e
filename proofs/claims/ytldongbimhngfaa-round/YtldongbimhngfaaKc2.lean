/- sievekeep's codes: an instruction, a code. -/
import Derived.Test.YtldongbimhngfaaKc1
namespace Go.Proofs.Ytldongbimhngfaa
open Go.RowKit
set_option linter.unusedVariables false
set_option linter.unusedSimpArgs false

set_option maxRecDepth 100000 in
set_option maxHeartbeats 4000000 in
theorem instr_any (w : World) (la : Option Addr) (ll lc : Nat) (z : Nat → Int) (B : Nat) (i n : Nat) (hR : RawRow w B la ll z) (hB : B ≤ w.heap.size) (hll : ll ≤ maxLen) (hi : i < n) (hn : n ≤ 1024) :
    Calls Try.prog 40 #[.slice la ll lc, .int .i64 i, .int .i64 n] w fun e w' => e = .returned (.agg (inCells (mkIn ll z n i))) ∧ w.grownBy w' none := by
  have HR := hid hR
  have N0 := hid (fun w (h : RawRow w B la ll z) => numC_any w la ll lc z B (4 * (i : Int)) h hll (by omega) (by omega))
  have N1 := hid (fun w (h : RawRow w B la ll z) => numC_any w la ll lc z B (4 * (i : Int) + 1) h hll (by omega) (by omega))
  have N2 := hid (fun w (h : RawRow w B la ll z) => numC_any w la ll lc z B (4 * (i : Int) + 2) h hll (by omega) (by omega))
  have N3 := hid (fun w (h : RawRow w B la ll z) => numC_any w la ll lc z B (4 * (i : Int) + 3) h hll (by omega) (by omega))
  have c0 : (4 * (i : Int)).toNat = 4 * i := by omega
  have c1 : (4 * (i : Int) + 1).toNat = 4 * i + 1 := by omega
  have c2 : (4 * (i : Int) + 2).toNat = 4 * i + 2 := by omega
  have c3 : (4 * (i : Int) + 3).toNat = 4 * i + 3 := by omega
  rw [c0] at N0
  rw [c1] at N1
  rw [c2] at N2
  rw [c3] at N3
  have b0 := nzc_bd hR (4 * i)
  have b1 := nzc_bd hR (4 * i + 1)
  have b2 := nzc_bd hR (4 * i + 2)
  have b3 := nzc_bd hR (4 * i + 3)
  have hd : Hid (mkIn ll z n i = ⟨mkOp n i (nzc ll z (4 * i)),
   if Sc.isTest (mkOp n i (nzc ll z (4 * i))) = true then pk (nzc ll z (4 * i + 2)) (most16 (n - i - 1)) else 0,
   if Sc.isTest (mkOp n i (nzc ll z (4 * i))) = true then pk (nzc ll z (4 * i + 3)) (most16 (n - i - 1)) else 0,
   if mkOp n i (nzc ll z (4 * i)) = 10 then pk (nzc ll z (4 * i + 1)) ((n - i - 1 : Nat) : Int) else opnd (mkOp n i (nzc ll z (4 * i))) (nzc ll z (4 * i + 1))⟩) := rfl
  have hor := mkOp_rng n i (nzc ll z (4 * i))
  generalize mkIn ll z n i = X at *
  generalize nzc ll z (4 * i) = y0 at *
  generalize nzc ll z (4 * i + 1) = y1 at *
  generalize nzc ll z (4 * i + 2) = y2 at *
  generalize nzc ll z (4 * i + 3) = y3 at *
  have p16 := pk_range y0 16 (by omega)
  have p2 := pk_range y0 2 (by omega)
  have q16a := p16.1
  have q16b := p16.2
  have q2a := p2.1
  have q2b := p2.2
  have KR := hid (fun w' (h : w.grownBy w' none) => HR.out.keep h hB (fun _ h => by cases h))
  have RA := hid (fun o => HR.out.keep (World.grownBy_alloc w o none) hB (fun _ h => by cases h))
  have P16 := hid (fun w => pick_any w y0 16 b0.1 b0.2 (by omega) (by omega))
  clear hR p16 p2 c0 c1 c2 c3
  by_cases hlast : n = i + 1
  · have hop : Hid (mkOp n i y0 = 15 + pk y0 2) := by unfold Hid mkOp; rw [if_pos hlast]
    have hnt : Sc.isTest (15 + pk y0 2) = false := by rw [isTest_iff]; simp; omega
    have hv : Hid (X = ⟨15 + pk y0 2, 0, 0, opnd (15 + pk y0 2) y1⟩) := by
      unfold Hid; rw [hd.out, hop.out, hnt, if_neg (by simp), if_neg (by simp), if_neg (by omega)]
    have e10 : ((15 + pk y0 2) == 10) = false := by rw [beq_eq_false_iff_ne]; omega
    have P2 := hid (fun w => pick_any w y0 2 b0.1 b0.2 (by omega) (by omega))
    have hO := hid (fun w => operand_any w (15 + pk y0 2) y1 b1.1 b1.2)
    have hT := hid (fun w => kIsTest_any w (15 + pk y0 2))
    rw [hnt] at hT
    clear hd hor hnt hop
    generalize opnd (15 + pk y0 2) y1 = kk at *
    generalize pk y0 2 = y at *
    generalize pk y0 16 = y' at *
    go_enter Try.func40, Try.ntmps40
    go_wp2_with fail
    refine (N0.out _ (RA.out _)).mono ?_
    rintro e w1 ⟨rfl, rfl⟩
    go_wp2_with fail
    refine (P16.out _).mono ?_
    rintro e w1 ⟨rfl, rfl⟩
    go_wp2_with fail
    refine (N0.out _ (RA.out _)).mono ?_
    rintro e w1 ⟨rfl, rfl⟩
    go_wp2_with fail
    refine (P2.out _).mono ?_
    rintro e w1 ⟨rfl, rfl⟩
    go_wp2_with fail
    refine (N1.out _ (RA.out _)).mono ?_
    rintro e w1 ⟨rfl, rfl⟩
    go_wp2_with fail
    refine (hO.out _).mono ?_
    rintro e w1 ⟨rfl, rfl⟩
    go_wp2_with fail
    refine (hT.out _).mono ?_
    rintro e w1 ⟨rfl, rfl⟩
    go_wp2_with fail
    refine bodyPost_ret (v := .agg (inCells X)) (by rw [hv.out]; simp [results, Try.results40, go_sem, inCells]) rfl ⟨rfl, ?_⟩
    exact gb_alloc (gb_alloc (gb_refl _ _) _) _
  · have hop : Hid (mkOp n i y0 = 1 + pk y0 16) := by unfold Hid mkOp; rw [if_neg hlast]
    have hl1 : (0 : Int) < (n : Int) - i - 1 := by omega
    have hl2 : ((n : Int) - i - 1 == 0) = false := by rw [beq_eq_false_iff_ne]; omega
    have hl3 : ((n - i - 1 : Nat) : Int) = (n : Int) - i - 1 := by omega
    have hO := hid (fun w => operand_any w (1 + pk y0 16) y1 b1.1 b1.2)
    have hT := hid (fun w => kIsTest_any w (1 + pk y0 16))
    have hor2 := opnd_rng (1 + pk y0 16) y1
    by_cases h10 : pk y0 16 = 9
    · have hv : Hid (X = ⟨1 + pk y0 16, 0, 0, pk y1 ((n : Int) - i - 1)⟩) := by
        have hnt : Sc.isTest (1 + pk y0 16) = false := by rw [h10]; rfl
        unfold Hid; rw [hd.out, hop.out, hnt, if_neg (by simp), if_neg (by simp), if_pos (by omega), hl3]
      have hnt : Sc.isTest (1 + pk y0 16) = false := by rw [h10]; rfl
      rw [hnt] at hT
      have PL := hid (fun w => pick_any w y1 ((n : Int) - i - 1) b1.1 b1.2 hl1 (by omega))
      clear hd hor hnt hop
      generalize opnd (1 + pk y0 16) y1 = kk at *
      generalize pk y1 ((n : Int) - i - 1) = kg at *
      rw [h10] at P16 hO hT hv
      clear h10 q16a q16b
      go_enter Try.func40, Try.ntmps40
      go_wp2_with fail
      refine (N0.out _ (RA.out _)).mono ?_
      rintro e w1 ⟨rfl, rfl⟩
      go_wp2_with fail
      refine (P16.out _).mono ?_
      rintro e w1 ⟨rfl, rfl⟩
      go_wp2_with fail
      refine (N1.out _ (RA.out _)).mono ?_
      rintro e w1 ⟨rfl, rfl⟩
      go_wp2_with fail
      refine (hO.out _).mono ?_
      rintro e w1 ⟨rfl, rfl⟩
      go_wp2_with fail
      refine (N1.out _ (KR.out _ (gb_alloc (gb_alloc (gb_refl _ _) _) _))).mono ?_
      rintro e w1 ⟨rfl, rfl⟩
      go_wp2_with fail
      refine (PL.out _).mono ?_
      rintro e w1 ⟨rfl, rfl⟩
      go_wp2_with fail
      refine (hT.out _).mono ?_
      rintro e w1 ⟨rfl, rfl⟩
      go_wp2_with fail
      refine bodyPost_ret (v := .agg (inCells X)) (by rw [hv.out]; simp [results, Try.results40, go_sem, inCells]) rfl ⟨rfl, ?_⟩
      exact gb_alloc (gb_alloc (gb_refl _ _) _) _
    · have e10 : ((1 + pk y0 16) == 10) = false := by rw [beq_eq_false_iff_ne]; omega
      by_cases htt : Sc.isTest (1 + pk y0 16) = true
      · by_cases h16 : 16 < n - i - 1
        · have hm : most16 (n - i - 1) = 16 := by unfold most16; rw [if_pos h16]
          have hv : Hid (X = ⟨1 + pk y0 16, pk y2 16, pk y3 16, opnd (1 + pk y0 16) y1⟩) := by
            unfold Hid; rw [hd.out, hop.out, if_pos htt, if_pos htt, if_neg (by omega), hm]
          rw [htt] at hT
          have P2 := hid (fun w => pick_any w y2 16 b2.1 b2.2 (by omega) (by omega))
          have P3 := hid (fun w => pick_any w y3 16 b3.1 b3.2 (by omega) (by omega))
          have d16 : decide ((16 : Int) < (n : Int) - i - 1) = true := by simp; omega
          clear hd hor htt hop hm
          generalize opnd (1 + pk y0 16) y1 = kk at *
          generalize pk y2 16 = tt at *
          generalize pk y3 16 = ff at *
          generalize pk y0 16 = y at *
          go_enter Try.func40, Try.ntmps40
          go_wp2_with fail
          refine (N0.out _ (RA.out _)).mono ?_
          rintro e w1 ⟨rfl, rfl⟩
          go_wp2_with fail
          refine (P16.out _).mono ?_
          rintro e w1 ⟨rfl, rfl⟩
          go_wp2_with fail
          refine (N1.out _ (RA.out _)).mono ?_
          rintro e w1 ⟨rfl, rfl⟩
          go_wp2_with fail
          refine (hO.out _).mono ?_
          rintro e w1 ⟨rfl, rfl⟩
          go_wp2_with fail
          refine (hT.out _).mono ?_
          rintro e w1 ⟨rfl, rfl⟩
          go_wp2_with fail
          refine (N2.out _ (KR.out _ (gb_alloc (gb_alloc (gb_refl _ _) _) _))).mono ?_
          rintro e w1 ⟨rfl, rfl⟩
          go_wp2_with fail
          refine (P2.out _).mono ?_
          rintro e w1 ⟨rfl, rfl⟩
          go_wp2_with fail
          refine (N3.out _ (KR.out _ (gb_alloc (gb_alloc (gb_refl _ _) _) _))).mono ?_
          rintro e w1 ⟨rfl, rfl⟩
          go_wp2_with fail
          refine (P3.out _).mono ?_
          rintro e w1 ⟨rfl, rfl⟩
          go_wp2_with fail
          refine bodyPost_ret (v := .agg (inCells X)) (by rw [hv.out]; simp [results, Try.results40, go_sem, inCells]) rfl ⟨rfl, ?_⟩
          exact gb_alloc (gb_alloc (gb_refl _ _) _) _
        · have hm : most16 (n - i - 1) = (n : Int) - i - 1 := by unfold most16; rw [if_neg h16]; omega
          have hv : Hid (X = ⟨1 + pk y0 16, pk y2 ((n : Int) - i - 1), pk y3 ((n : Int) - i - 1), opnd (1 + pk y0 16) y1⟩) := by
            unfold Hid; rw [hd.out, hop.out, if_pos htt, if_pos htt, if_neg (by omega), hm]
          rw [htt] at hT
          have P2 := hid (fun w => pick_any w y2 ((n : Int) - i - 1) b2.1 b2.2 hl1 (by omega))
          have P3 := hid (fun w => pick_any w y3 ((n : Int) - i - 1) b3.1 b3.2 hl1 (by omega))
          have d16 : decide ((16 : Int) < (n : Int) - i - 1) = false := by simp; omega
          clear hd hor htt hop hm
          generalize opnd (1 + pk y0 16) y1 = kk at *
          generalize pk y2 ((n : Int) - i - 1) = tt at *
          generalize pk y3 ((n : Int) - i - 1) = ff at *
          generalize pk y0 16 = y at *
          go_enter Try.func40, Try.ntmps40
          go_wp2_with fail
          refine (N0.out _ (RA.out _)).mono ?_
          rintro e w1 ⟨rfl, rfl⟩
          go_wp2_with fail
          refine (P16.out _).mono ?_
          rintro e w1 ⟨rfl, rfl⟩
          go_wp2_with fail
          refine (N1.out _ (RA.out _)).mono ?_
          rintro e w1 ⟨rfl, rfl⟩
          go_wp2_with fail
          refine (hO.out _).mono ?_
          rintro e w1 ⟨rfl, rfl⟩
          go_wp2_with fail
          refine (hT.out _).mono ?_
          rintro e w1 ⟨rfl, rfl⟩
          go_wp2_with fail
          refine (N2.out _ (KR.out _ (gb_alloc (gb_alloc (gb_refl _ _) _) _))).mono ?_
          rintro e w1 ⟨rfl, rfl⟩
          go_wp2_with fail
          refine (P2.out _).mono ?_
          rintro e w1 ⟨rfl, rfl⟩
          go_wp2_with fail
          refine (N3.out _ (KR.out _ (gb_alloc (gb_alloc (gb_refl _ _) _) _))).mono ?_
          rintro e w1 ⟨rfl, rfl⟩
          go_wp2_with fail
          refine (P3.out _).mono ?_
          rintro e w1 ⟨rfl, rfl⟩
          go_wp2_with fail
          refine bodyPost_ret (v := .agg (inCells X)) (by rw [hv.out]; simp [results, Try.results40, go_sem, inCells]) rfl ⟨rfl, ?_⟩
          exact gb_alloc (gb_alloc (gb_refl _ _) _) _
      · have hnt : Sc.isTest (1 + pk y0 16) = false := by simpa using htt
        have hv : Hid (X = ⟨1 + pk y0 16, 0, 0, opnd (1 + pk y0 16) y1⟩) := by
          unfold Hid; rw [hd.out, hop.out, if_neg htt, if_neg htt, if_neg (by omega)]
        rw [hnt] at hT
        clear hd hor htt hop hnt
        generalize opnd (1 + pk y0 16) y1 = kk at *
        generalize pk y0 16 = y at *
        go_enter Try.func40, Try.ntmps40
        go_wp2_with fail
        refine (N0.out _ (RA.out _)).mono ?_
        rintro e w1 ⟨rfl, rfl⟩
        go_wp2_with fail
        refine (P16.out _).mono ?_
        rintro e w1 ⟨rfl, rfl⟩
        go_wp2_with fail
        refine (N1.out _ (RA.out _)).mono ?_
        rintro e w1 ⟨rfl, rfl⟩
        go_wp2_with fail
        refine (hO.out _).mono ?_
        rintro e w1 ⟨rfl, rfl⟩
        go_wp2_with fail
        refine (hT.out _).mono ?_
        rintro e w1 ⟨rfl, rfl⟩
        go_wp2_with fail
        refine bodyPost_ret (v := .agg (inCells X)) (by rw [hv.out]; simp [results, Try.results40, go_sem, inCells]) rfl ⟨rfl, ?_⟩
        exact gb_alloc (gb_alloc (gb_refl _ _) _) _
end Go.Proofs.Ytldongbimhngfaa
