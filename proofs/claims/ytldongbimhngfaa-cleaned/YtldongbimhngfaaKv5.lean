/- Cleaned: the walk. -/
import Derived.Test.YtldongbimhngfaaKv10
import Derived.Deep.CutRange
namespace Go.Proofs.Ytldongbimhngfaa
open Go.RowKit
set_option linter.unusedVariables false
set_option linter.unusedSimpArgs false

/-- behind a last pass -/
theorem clean_last (P q : ByteArray) (b : Int) (hq : q.size = 1) (hb : Sv.byteAt q 0 = b) (hbv : b = 100 ∨ b = 106 ∨ b = 108 ∨ b = 107) {L : List Sc.In} (hs : SoundList L) : CleanOk b (Sc.impL (P ++ q) L) := by
  have hM : SoundList (Sc.impL P L) := (impN_better P hs P.size).sound
  have e : Sc.impL (P ++ q) L = Sc.passOf b (Sc.impL P L) := by
    rw [impN_app]
    show Sc.impN q (Sc.impL P L) q.size = _
    rw [hq]
    show Sc.passOf (Sv.byteAt q 0) (Sc.impL P L) = _
    rw [hb]
  rw [e]
  rcases hbv with rfl | rfl | rfl | rfl
  · exact Or.inl ⟨rfl, (passD_good hM).2⟩
  · exact Or.inr (Or.inl ⟨rfl, passJ_tidy hM⟩)
  · exact Or.inr (Or.inr (Or.inl ⟨rfl, passL_done hM⟩))
  · exact Or.inr (Or.inr (Or.inr ⟨rfl, passK_done hM⟩))
set_option maxRecDepth 100000 in
set_option maxHeartbeats 8000000 in
theorem cleaned_walk (w : World) (la lp : Option Addr) (na ca np cp : Nat) (za zp : Nat → Int) (n : Int) (hA : RawRow w w.heap.size la na za) (hP : RawRow w w.heap.size lp np zp) (ma : na ≤ maxLen) (mp : np ≤ maxLen) (n0 : -9223372036854775808 ≤ n) (n1 : n ≤ 9223372036854775807) :
    Calls Try.prog 11 #[.slice la na ca, .slice lp np cp, .int .i64 n] w fun e w' => e = .returned (.bool true) ∧ Below w.heap.size w w' := by
  have hPk := hid (fun w => pick_any w n 4 n0 n1 (by omega) (by omega))
  have hrg := pk_range n 4 (by omega)
  have hC := hid (code_any w la na ca za 1024 hA ma (by omega) (by omega))
  have HP := hid hP
  generalize pk n 4 = q at *
  obtain ⟨j, rfl⟩ := Int.eq_ofNat_of_zero_le hrg.1
  have hj : j = 0 ∨ j = 1 ∨ j = 2 ∨ j = 3 := by omega
  clear hA hP hrg n0 n1
  rcases hj with rfl | rfl | rfl | rfl
  · go_enter Try.func11, Try.ntmps11
    go_wp2_with fail
    refine (hPk.out _).mono ?_
    rintro e w0 ⟨rfl, rfl⟩
    clear hPk
    go_wp2_with fail
    refine hC.out.mono ?_
    rintro e w1 ⟨v, n, rfl, hn1, hn2, hg1, ho1⟩
    clear hC
    obtain ⟨sa, sc, rfl⟩ := owns_slice ho1
    have hSL := codeP_sound na za n hn1 (by omega)
    have hlen := codeP_len na za n n
    generalize codeP na za n n = L at *
    subst hlen
    have HSL := hid hSL
    have HG1 := hid hg1
    have hB := hid (kBytes_any w1 sa sc L (InsAt.of_own rfl ho1) hSL)
    clear hg1 hSL ho1
    go_wp2_with fail
    refine hB.out.mono ?_
    rintro e w2 ⟨rfl, hg2⟩
    have HG2 := hid (gb_trans HG1.out hg2)
    clear hB hg2 HG1
    have hPs := hid (kPasses_any w2.drew lp np cp zp (raw_on HP.out (Nat.le_refl _) (gb_drew HG2.out)) mp 11 (by omega))
    have hPs2 := hid (kPasses_any w2 lp np cp zp (raw_on HP.out (Nat.le_refl _) HG2.out) mp 11 (by omega))
    have hIm := hid (fun (w : World) (P : ByteArray) (hp : P.size ≤ 11) => kImproved_any w L (P ++ (⟨#[100]⟩ : ByteArray)) HSL.out (by rw [ByteArray.size_append]; show P.size + 1 ≤ 12; omega))
    have wz : IntKind.i64.wrap 1 = 1 := IntWalk.i64_in _ ⟨by omega, by omega⟩
    go_upto_region 3 with fail
    go_cut [10, 11] from 24 (fun v10 v11 wc => ∃ P : ByteArray, P.size ≤ 11 ∧ v10 = .string (bytesOf (Sc.impL (P ++ (⟨#[100]⟩ : ByteArray)) L)) ∧ v11 = .bool true ∧ w0.grownBy wc none)
    case first =>
      go_region_with (first | (go_at_call 34; (first | refine hPs.out.mono ?_ | refine hPs2.out.mono ?_); rintro e w' ⟨P, rfl, hp11, rfl⟩) | (go_at_call 33; refine (hIm.out _ P hp11).mono ?_; rintro e w4 ⟨rfl, hg4⟩))
      all_goals
        go_wp2_with fail
        go_meet
        exact ⟨P, hp11, rfl, rfl, gb_trans (gb_drew HG2.out) hg4⟩
    case rest =>
      obtain ⟨P, hp11, rfl, rfl, hgc⟩ := hcut
      have HGC := hid hgc
      have hbt : Hid (Better1 L (Sc.impL (P ++ (⟨#[100]⟩ : ByteArray)) L)) := impN_better _ HSL.out _
      have hck := hid (clean_last P (⟨#[100]⟩ : ByteArray) 100 rfl rfl (by omega) HSL.out)
      clear hgc hPs hPs2 hIm HG2 HSL HP
      generalize Sc.impL (P ++ (⟨#[100]⟩ : ByteArray)) L = M at *
      have hD := hid (fun w => decode_any w (bytesOf M) (by rw [bytesOf_size]; have := hbt.out.sound.1.1; unfold maxLen; omega))
      rw [hbt.out.sound.1.decL, hbt.out.sound.1.decE] at hD
      go_wp2_with fail
      refine (hD.out _).mono ?_
      rintro e w5 ⟨sb, rfl, hg5, ho5⟩
      have HG5 := hid (gb_trans HGC.out hg5)
      have hB := hid (kBytes_any w5 sb M.length M (InsAt.of_own rfl ho5) hbt.out.sound)
      have I5 := hid (InsAt.of_own rfl ho5)
      clear hD hg5 ho5 HGC
      go_wp2_with fail
      refine hB.out.mono ?_
      rintro e w6 ⟨rfl, hg6⟩
      have HG6 := hid (gb_trans HG5.out hg6)
      have hCl := hid (kClean_any w6 sb M.length M (I5.out.keep hg6) hbt.out.sound 100 hck.out)
      clear hB hg6 HG5 I5
      generalize bytesOf M = T at *
      go_wp2_with fail
      refine hCl.out.mono ?_
      rintro e w7 ⟨rfl, hg7⟩
      have HG7 := hid (gb_trans HG6.out hg7)
      clear hCl hg7 HG6
      go_wp2_with fail
      go_ret
      exact ⟨rfl, gb_below HG7.out⟩
  · go_enter Try.func11, Try.ntmps11
    go_wp2_with fail
    refine (hPk.out _).mono ?_
    rintro e w0 ⟨rfl, rfl⟩
    clear hPk
    go_wp2_with fail
    refine hC.out.mono ?_
    rintro e w1 ⟨v, n, rfl, hn1, hn2, hg1, ho1⟩
    clear hC
    obtain ⟨sa, sc, rfl⟩ := owns_slice ho1
    have hSL := codeP_sound na za n hn1 (by omega)
    have hlen := codeP_len na za n n
    generalize codeP na za n n = L at *
    subst hlen
    have HSL := hid hSL
    have HG1 := hid hg1
    have hB := hid (kBytes_any w1 sa sc L (InsAt.of_own rfl ho1) hSL)
    clear hg1 hSL ho1
    go_wp2_with fail
    refine hB.out.mono ?_
    rintro e w2 ⟨rfl, hg2⟩
    have HG2 := hid (gb_trans HG1.out hg2)
    clear hB hg2 HG1
    have hPs := hid (kPasses_any w2.drew lp np cp zp (raw_on HP.out (Nat.le_refl _) (gb_drew HG2.out)) mp 11 (by omega))
    have hPs2 := hid (kPasses_any w2 lp np cp zp (raw_on HP.out (Nat.le_refl _) HG2.out) mp 11 (by omega))
    have hIm := hid (fun (w : World) (P : ByteArray) (hp : P.size ≤ 11) => kImproved_any w L (P ++ (⟨#[106]⟩ : ByteArray)) HSL.out (by rw [ByteArray.size_append]; show P.size + 1 ≤ 12; omega))
    have wz : IntKind.i64.wrap 2 = 2 := IntWalk.i64_in _ ⟨by omega, by omega⟩
    go_upto_region 3 with fail
    go_cut [10, 11] from 24 (fun v10 v11 wc => ∃ P : ByteArray, P.size ≤ 11 ∧ v10 = .string (bytesOf (Sc.impL (P ++ (⟨#[106]⟩ : ByteArray)) L)) ∧ v11 = .bool true ∧ w0.grownBy wc none)
    case first =>
      go_region_with (first | (go_at_call 34; (first | refine hPs.out.mono ?_ | refine hPs2.out.mono ?_); rintro e w' ⟨P, rfl, hp11, rfl⟩) | (go_at_call 33; refine (hIm.out _ P hp11).mono ?_; rintro e w4 ⟨rfl, hg4⟩))
      all_goals
        go_wp2_with fail
        go_meet
        exact ⟨P, hp11, rfl, rfl, gb_trans (gb_drew HG2.out) hg4⟩
    case rest =>
      obtain ⟨P, hp11, rfl, rfl, hgc⟩ := hcut
      have HGC := hid hgc
      have hbt : Hid (Better1 L (Sc.impL (P ++ (⟨#[106]⟩ : ByteArray)) L)) := impN_better _ HSL.out _
      have hck := hid (clean_last P (⟨#[106]⟩ : ByteArray) 106 rfl rfl (by omega) HSL.out)
      clear hgc hPs hPs2 hIm HG2 HSL HP
      generalize Sc.impL (P ++ (⟨#[106]⟩ : ByteArray)) L = M at *
      have hD := hid (fun w => decode_any w (bytesOf M) (by rw [bytesOf_size]; have := hbt.out.sound.1.1; unfold maxLen; omega))
      rw [hbt.out.sound.1.decL, hbt.out.sound.1.decE] at hD
      go_wp2_with fail
      refine (hD.out _).mono ?_
      rintro e w5 ⟨sb, rfl, hg5, ho5⟩
      have HG5 := hid (gb_trans HGC.out hg5)
      have hB := hid (kBytes_any w5 sb M.length M (InsAt.of_own rfl ho5) hbt.out.sound)
      have I5 := hid (InsAt.of_own rfl ho5)
      clear hD hg5 ho5 HGC
      go_wp2_with fail
      refine hB.out.mono ?_
      rintro e w6 ⟨rfl, hg6⟩
      have HG6 := hid (gb_trans HG5.out hg6)
      have hCl := hid (kClean_any w6 sb M.length M (I5.out.keep hg6) hbt.out.sound 106 hck.out)
      clear hB hg6 HG5 I5
      generalize bytesOf M = T at *
      go_wp2_with fail
      refine hCl.out.mono ?_
      rintro e w7 ⟨rfl, hg7⟩
      have HG7 := hid (gb_trans HG6.out hg7)
      clear hCl hg7 HG6
      go_wp2_with fail
      go_ret
      exact ⟨rfl, gb_below HG7.out⟩
  · go_enter Try.func11, Try.ntmps11
    go_wp2_with fail
    refine (hPk.out _).mono ?_
    rintro e w0 ⟨rfl, rfl⟩
    clear hPk
    go_wp2_with fail
    refine hC.out.mono ?_
    rintro e w1 ⟨v, n, rfl, hn1, hn2, hg1, ho1⟩
    clear hC
    obtain ⟨sa, sc, rfl⟩ := owns_slice ho1
    have hSL := codeP_sound na za n hn1 (by omega)
    have hlen := codeP_len na za n n
    generalize codeP na za n n = L at *
    subst hlen
    have HSL := hid hSL
    have HG1 := hid hg1
    have hB := hid (kBytes_any w1 sa sc L (InsAt.of_own rfl ho1) hSL)
    clear hg1 hSL ho1
    go_wp2_with fail
    refine hB.out.mono ?_
    rintro e w2 ⟨rfl, hg2⟩
    have HG2 := hid (gb_trans HG1.out hg2)
    clear hB hg2 HG1
    have hPs := hid (kPasses_any w2.drew lp np cp zp (raw_on HP.out (Nat.le_refl _) (gb_drew HG2.out)) mp 11 (by omega))
    have hPs2 := hid (kPasses_any w2 lp np cp zp (raw_on HP.out (Nat.le_refl _) HG2.out) mp 11 (by omega))
    have hIm := hid (fun (w : World) (P : ByteArray) (hp : P.size ≤ 11) => kImproved_any w L (P ++ (⟨#[108]⟩ : ByteArray)) HSL.out (by rw [ByteArray.size_append]; show P.size + 1 ≤ 12; omega))
    have wz : IntKind.i64.wrap 3 = 3 := IntWalk.i64_in _ ⟨by omega, by omega⟩
    go_upto_region 3 with fail
    go_cut [10, 11] from 24 (fun v10 v11 wc => ∃ P : ByteArray, P.size ≤ 11 ∧ v10 = .string (bytesOf (Sc.impL (P ++ (⟨#[108]⟩ : ByteArray)) L)) ∧ v11 = .bool true ∧ w0.grownBy wc none)
    case first =>
      go_region_with (first | (go_at_call 34; (first | refine hPs.out.mono ?_ | refine hPs2.out.mono ?_); rintro e w' ⟨P, rfl, hp11, rfl⟩) | (go_at_call 33; refine (hIm.out _ P hp11).mono ?_; rintro e w4 ⟨rfl, hg4⟩))
      all_goals
        go_wp2_with fail
        go_meet
        exact ⟨P, hp11, rfl, rfl, gb_trans (gb_drew HG2.out) hg4⟩
    case rest =>
      obtain ⟨P, hp11, rfl, rfl, hgc⟩ := hcut
      have HGC := hid hgc
      have hbt : Hid (Better1 L (Sc.impL (P ++ (⟨#[108]⟩ : ByteArray)) L)) := impN_better _ HSL.out _
      have hck := hid (clean_last P (⟨#[108]⟩ : ByteArray) 108 rfl rfl (by omega) HSL.out)
      clear hgc hPs hPs2 hIm HG2 HSL HP
      generalize Sc.impL (P ++ (⟨#[108]⟩ : ByteArray)) L = M at *
      have hD := hid (fun w => decode_any w (bytesOf M) (by rw [bytesOf_size]; have := hbt.out.sound.1.1; unfold maxLen; omega))
      rw [hbt.out.sound.1.decL, hbt.out.sound.1.decE] at hD
      go_wp2_with fail
      refine (hD.out _).mono ?_
      rintro e w5 ⟨sb, rfl, hg5, ho5⟩
      have HG5 := hid (gb_trans HGC.out hg5)
      have hB := hid (kBytes_any w5 sb M.length M (InsAt.of_own rfl ho5) hbt.out.sound)
      have I5 := hid (InsAt.of_own rfl ho5)
      clear hD hg5 ho5 HGC
      go_wp2_with fail
      refine hB.out.mono ?_
      rintro e w6 ⟨rfl, hg6⟩
      have HG6 := hid (gb_trans HG5.out hg6)
      have hCl := hid (kClean_any w6 sb M.length M (I5.out.keep hg6) hbt.out.sound 108 hck.out)
      clear hB hg6 HG5 I5
      generalize bytesOf M = T at *
      go_wp2_with fail
      refine hCl.out.mono ?_
      rintro e w7 ⟨rfl, hg7⟩
      have HG7 := hid (gb_trans HG6.out hg7)
      clear hCl hg7 HG6
      go_wp2_with fail
      go_ret
      exact ⟨rfl, gb_below HG7.out⟩
  · go_enter Try.func11, Try.ntmps11
    go_wp2_with fail
    refine (hPk.out _).mono ?_
    rintro e w0 ⟨rfl, rfl⟩
    clear hPk
    go_wp2_with fail
    refine hC.out.mono ?_
    rintro e w1 ⟨v, n, rfl, hn1, hn2, hg1, ho1⟩
    clear hC
    obtain ⟨sa, sc, rfl⟩ := owns_slice ho1
    have hSL := codeP_sound na za n hn1 (by omega)
    have hlen := codeP_len na za n n
    generalize codeP na za n n = L at *
    subst hlen
    have HSL := hid hSL
    have HG1 := hid hg1
    have hB := hid (kBytes_any w1 sa sc L (InsAt.of_own rfl ho1) hSL)
    clear hg1 hSL ho1
    go_wp2_with fail
    refine hB.out.mono ?_
    rintro e w2 ⟨rfl, hg2⟩
    have HG2 := hid (gb_trans HG1.out hg2)
    clear hB hg2 HG1
    have hPs := hid (kPasses_any w2.drew lp np cp zp (raw_on HP.out (Nat.le_refl _) (gb_drew HG2.out)) mp 11 (by omega))
    have hPs2 := hid (kPasses_any w2 lp np cp zp (raw_on HP.out (Nat.le_refl _) HG2.out) mp 11 (by omega))
    have hIm := hid (fun (w : World) (P : ByteArray) (hp : P.size ≤ 11) => kImproved_any w L (P ++ (⟨#[107]⟩ : ByteArray)) HSL.out (by rw [ByteArray.size_append]; show P.size + 1 ≤ 12; omega))
    have wz : IntKind.i64.wrap 4 = 4 := IntWalk.i64_in _ ⟨by omega, by omega⟩
    go_upto_region 3 with fail
    go_cut [10, 11] from 24 (fun v10 v11 wc => ∃ P : ByteArray, P.size ≤ 11 ∧ v10 = .string (bytesOf (Sc.impL (P ++ (⟨#[107]⟩ : ByteArray)) L)) ∧ v11 = .bool true ∧ w0.grownBy wc none)
    case first =>
      go_region_with (first | (go_at_call 34; (first | refine hPs.out.mono ?_ | refine hPs2.out.mono ?_); rintro e w' ⟨P, rfl, hp11, rfl⟩) | (go_at_call 33; refine (hIm.out _ P hp11).mono ?_; rintro e w4 ⟨rfl, hg4⟩))
      all_goals
        go_wp2_with fail
        go_meet
        exact ⟨P, hp11, rfl, rfl, gb_trans (gb_drew HG2.out) hg4⟩
    case rest =>
      obtain ⟨P, hp11, rfl, rfl, hgc⟩ := hcut
      have HGC := hid hgc
      have hbt : Hid (Better1 L (Sc.impL (P ++ (⟨#[107]⟩ : ByteArray)) L)) := impN_better _ HSL.out _
      have hck := hid (clean_last P (⟨#[107]⟩ : ByteArray) 107 rfl rfl (by omega) HSL.out)
      clear hgc hPs hPs2 hIm HG2 HSL HP
      generalize Sc.impL (P ++ (⟨#[107]⟩ : ByteArray)) L = M at *
      have hD := hid (fun w => decode_any w (bytesOf M) (by rw [bytesOf_size]; have := hbt.out.sound.1.1; unfold maxLen; omega))
      rw [hbt.out.sound.1.decL, hbt.out.sound.1.decE] at hD
      go_wp2_with fail
      refine (hD.out _).mono ?_
      rintro e w5 ⟨sb, rfl, hg5, ho5⟩
      have HG5 := hid (gb_trans HGC.out hg5)
      have hB := hid (kBytes_any w5 sb M.length M (InsAt.of_own rfl ho5) hbt.out.sound)
      have I5 := hid (InsAt.of_own rfl ho5)
      clear hD hg5 ho5 HGC
      go_wp2_with fail
      refine hB.out.mono ?_
      rintro e w6 ⟨rfl, hg6⟩
      have HG6 := hid (gb_trans HG5.out hg6)
      have hCl := hid (kClean_any w6 sb M.length M (I5.out.keep hg6) hbt.out.sound 107 hck.out)
      clear hB hg6 HG5 I5
      generalize bytesOf M = T at *
      go_wp2_with fail
      refine hCl.out.mono ?_
      rintro e w7 ⟨rfl, hg7⟩
      have HG7 := hid (gb_trans HG6.out hg7)
      clear hCl hg7 HG6
      go_wp2_with fail
      go_ret
      exact ⟨rfl, gb_below HG7.out⟩
end Go.Proofs.Ytldongbimhngfaa
