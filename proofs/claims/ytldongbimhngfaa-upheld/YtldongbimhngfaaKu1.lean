/- sievekeep: improved, Passes; Upheld and Chained. -/
import Derived.Test.YtldongbimhngfaaKc5
import Derived.Test.YtldongbimhngfaaKp7
import Derived.Test.YtldongbimhngfaaGIwc
namespace Go.Proofs.Ytldongbimhngfaa
open Go.RowKit
set_option linter.unusedVariables false
set_option linter.unusedSimpArgs false

theorem raw_on {w w' : World} {B : Nat} {a : Option Addr} {len : Nat} {z : Nat → Int} (h : RawRow w B a len z) (hB : B ≤ w.heap.size) (hg : w.grownBy w' none) : RawRow w' w'.heap.size a len z := by
  have hz := hg.size
  intro i hi
  obtain ⟨b, off, h1, h2, h3, h4⟩ := (h.keep hg hB (fun _ h => by cases h)) i hi
  exact ⟨b, off, h1, by omega, h3, h4⟩
/-- improving the bytes of a list -/
theorem imp_bytes (L : List Sc.In) (p : ByteArray) (hs : SoundList L) (hp : p.size ≤ 12) : Sc.impErr (bytesOf L) p = 0 ∧ Sc.impOut (bytesOf L) p = bytesOf (Sc.impL p L) := by
  have h1 : Sc.impErr (bytesOf L) p = 0 := by
    unfold Sc.impErr
    rw [hs.sound, if_pos rfl, if_neg (by omega)]
  refine ⟨h1, ?_⟩
  unfold Sc.impOut
  rw [if_pos h1, hs.1.decL]
set_option maxRecDepth 100000 in
set_option maxHeartbeats 2000000 in
theorem kImproved_any (w : World) (L : List Sc.In) (p : ByteArray) (hs : SoundList L) (hp : p.size ≤ 12) :
    Calls Try.prog 33 #[.string (bytesOf L), .string p] w fun e w' => e = .returned (.tuple #[.string (bytesOf (Sc.impL p L)), .bool true]) ∧ w.grownBy w' none := by
  have hb := impN_better p hs p.size
  have hb' : Better1 L (Sc.impL p L) := hb
  have hI := hid (improve_any w (bytesOf L) p (by rw [bytesOf_size]; have := hs.1.1; unfold maxLen; omega) (by unfold maxLen; omega))
  rw [(imp_bytes L p hs hp).1, (imp_bytes L p hs hp).2] at hI
  have hSo := hid (fun w => sound_any w (bytesOf (Sc.impL p L)) (by rw [bytesOf_size]; have := hb'.sound.1.1; unfold maxLen; omega))
  rw [hb'.sound.sound] at hSo
  have s1 := bytesOf_size L
  have s2 := bytesOf_size (Sc.impL p L)
  have hl := hb'.len
  have hl2 := hs.1.1
  generalize bytesOf (Sc.impL p L) = T at *
  generalize bytesOf L = S at *
  have d1 : decide ((T.size : Int) ≤ (S.size : Int)) = true := by simp; omega
  have d2 : decide (T.size ≤ S.size) = true := by simp; omega
  have b1 : T.size ≤ 5120 := by omega
  have b2 : S.size ≤ 5120 := by omega
  clear hb hb' hs s1 s2 hl hl2
  go_enter Try.func33, Try.ntmps33
  go_wp2_with fail
  refine hI.out.mono ?_
  rintro e w1 ⟨rfl, hg1⟩
  have G1 := hid hg1
  clear hI hg1
  go_wp2_with fail
  refine (hSo.out _).mono ?_
  rintro e w2 ⟨rfl, hg2⟩
  have G2 := hid (gb_trans G1.out hg2)
  clear hSo hg2 G1
  go_wp2_with fail
  go_ret2
  exact ⟨by simp, G2.out⟩
set_option maxRecDepth 100000 in
set_option maxHeartbeats 2000000 in
theorem kPasses_any (w : World) (la : Option Addr) (ll lc : Nat) (z : Nat → Int) (hR : RawRow w w.heap.size la ll z) (hll : ll ≤ maxLen) (most : Nat) (hm : most ≤ 12) :
    Calls Try.prog 34 #[.slice la ll lc, .int .i64 most] w fun e w' => ∃ P : ByteArray, e = .returned (.string P) ∧ P.size ≤ most ∧ w' = w := by
  have HR := hid hR
  unfold maxLen at hll
  clear hR
  go_enter Try.func34, Try.ntmps34
  go_wp2_with fail
  go_loopw [5, 6] (fun v i wr => ∃ (k : Nat) (P : ByteArray), k ≤ most ∧ k ≤ ll ∧ i = .int .i64 k ∧ v = .string P ∧ P.size = k ∧ wr = w) (fun v i wr => most - (intOf i).toNat)
  case atStart => exact ⟨0, ByteArray.empty, Nat.zero_le _, Nat.zero_le _, rfl, rfl, rfl, rfl⟩
  case round =>
    obtain ⟨k, P, hk, hk2, rfl, rfl, hP, rfl⟩ := hrel
    by_cases h1 : k < ll
    · have d1 : (k : Int) < (ll : Int) := by omega
      by_cases h2 : k < most
      · have d2 : (k : Int) < (most : Int) := by omega
        obtain ⟨b, off, rfl, hb, hc, b1, b2⟩ := HR.out k h1
        have hPk := hid (fun w => pick_any w (z k) 5 b1 b2 (by omega) (by omega))
        have hrg := pk_range (z k) 5 (by omega)
        generalize pk (z k) 5 = q at *
        generalize z k = zz at *
        obtain ⟨j, rfl⟩ := Int.eq_ofNat_of_zero_le hrg.1
        have hj : j = 0 ∨ j = 1 ∨ j = 2 ∨ j = 3 ∨ j = 4 := by omega
        have HP := hid hP
        have hPs : P.size ≤ 12 := by omega
        clear hP hrg
        rcases hj with rfl | rfl | rfl | rfl | rfl
        all_goals
          go_wp2_with fail
          refine (hPk.out _).mono ?_
          rintro e w1 ⟨rfl, rfl⟩
          clear hPk
          go_wp2_with fail
          go_roundw
          case rel =>
            refine ⟨k + 1, _, by omega, by omega, by go_num, rfl, ?_, by first | rfl | trivial⟩
            rw [ByteArray.size_append, HP.out]; rfl
          case measure => simp [intOf]; omega
      · have d2 : ¬ ((k : Int) < (most : Int)) := by omega
        go_wp2_with fail
        go_ret
        exact ⟨P, rfl, by omega, rfl⟩
    · have d1 : ¬ ((k : Int) < (ll : Int)) := by omega
      go_wp2_with fail
      go_ret
      exact ⟨P, rfl, by omega, rfl⟩
set_option maxRecDepth 100000 in
set_option maxHeartbeats 4000000 in
theorem upheld_walk (w : World) (la lp lr : Option Addr) (na ca np cp nr cr : Nat) (za zp zr : Nat → Int) (hA : RawRow w w.heap.size la na za) (hP : RawRow w w.heap.size lp np zp) (hR : RawRow w w.heap.size lr nr zr) (ma : na ≤ maxLen) (mp : np ≤ maxLen) (mr : nr ≤ maxLen) :
    Calls Try.prog 9 #[.slice la na ca, .slice lp np cp, .slice lr nr cr] w fun e w' => e = .returned (.bool true) ∧ Below w.heap.size w w' := by
  have hC := hid (code_any w la na ca za 1024 hA ma (by omega) (by omega))
  have HR := hid hR
  have HP := hid hP
  clear hA hR hP
  go_enter Try.func9, Try.ntmps9
  go_wp2_with fail
  refine hC.out.mono ?_
  rintro e w1 ⟨v, n, rfl, hn1, hn2, hg1, ho1⟩
  clear hC
  obtain ⟨sa, sc, rfl⟩ := owns_slice ho1
  have hSL := codeP_sound na za n hn1 (by omega)
  have hlen := codeP_len na za n n
  generalize codeP na za n n = L at *
  subst hlen
  have HSL := hid hSL
  have HG1 := hid hg1
  have hB := hid (kBytes_any w1 sa sc L (InsAt.of_own rfl ho1) hSL)
  clear hg1 hSL ho1
  go_wp2_with fail
  refine hB.out.mono ?_
  rintro e w2 ⟨rfl, hg2⟩
  have HG2 := hid (gb_trans HG1.out hg2)
  clear hB hg2 HG1
  have hPs := hid (kPasses_any w2 lp np cp zp (raw_on HP.out (Nat.le_refl _) HG2.out) mp 12 (Nat.le_refl _))
  go_wp2_with fail
  refine hPs.out.mono ?_
  rintro e w3 ⟨P, rfl, hp12, rfl⟩
  clear hPs HP
  have hIm := hid (kImproved_any w3 L P HSL.out hp12)
  have HB := hid (impN_better P HSL.out P.size)
  go_wp2_with fail
  refine hIm.out.mono ?_
  rintro e w4 ⟨rfl, hg4⟩
  clear hIm
  have HG4 := hid (gb_trans HG2.out hg4)
  clear hg4 HG2
  have hRc := hid (record_any w4 lr nr cr zr (raw_on HR.out (Nat.le_refl _) HG4.out) mr)
  go_wp2_with fail
  refine hRc.out.mono ?_
  rintro e w5 ⟨rfl, hg5⟩
  clear hRc HR
  have hr20 := rec_size nr zr
  generalize (⟨(recB nr zr 10).toArray⟩ : ByteArray) = r at *
  have HG5 := hid (gb_trans HG4.out hg5)
  clear hg5 HG4
  have hN1 := hid (kRan_any w5 L r HSL.out hr20)
  have hbt : Hid (Better1 L (Sc.impL P L)) := HB.out
  have hN2 := hid (fun w => kRan_any w (Sc.impL P L) r hbt.out.sound hr20)
  have hrl := hbt.out.runL HSL.out r
  generalize bytesOf (Sc.impL P L) = T at *
  generalize bytesOf L = S at *
  generalize Sc.runL r (Sc.impL P L) = X at *
  generalize Sc.runL r L = Y at *
  obtain ⟨x1, x2⟩ := X
  obtain ⟨y1, y2⟩ := Y
  simp only at hN1 hN2 hrl
  obtain ⟨e1, e2⟩ := hrl
  subst e1
  clear HB hbt HSL hr20
  have d1 : decide (x2 ≤ y2) = true := by simp [e2]
  go_wp2_with fail
  refine hN1.out.mono ?_
  rintro e w6 ⟨rfl, hg6⟩
  have HG6 := hid (gb_trans HG5.out hg6)
  clear hN1 hg6 HG5
  go_wp2_with fail
  refine (hN2.out _).mono ?_
  rintro e w7 ⟨rfl, hg7⟩
  have HG7 := hid (gb_trans HG6.out hg7)
  clear hN2 hg7 HG6
  go_wp2_with fail
  go_ret
  exact ⟨by simp, gb_below HG7.out⟩
/-- passes cut in two -/
theorem impN_app (p q : ByteArray) (L : List Sc.In) : Sc.impL (p ++ q) L = Sc.impL q (Sc.impL p L) := by
  have hb1 : ∀ i, i < p.size → Sv.byteAt (p ++ q) i = Sv.byteAt p i := by
    intro i hi
    rw [byteAt_in (by rw [ByteArray.size_append]; omega), byteAt_in hi]
    congr 2
    exact ByteArray.getElem_append_left hi
  have hb2 : ∀ i, i < q.size → Sv.byteAt (p ++ q) (p.size + i) = Sv.byteAt q i := by
    intro i hi
    rw [byteAt_in (by rw [ByteArray.size_append]; omega), byteAt_in hi]
    congr 2
    rw [ByteArray.getElem_append_right (by omega)]
    congr 1
    omega
  have h1 : ∀ n, n ≤ p.size → Sc.impN (p ++ q) L n = Sc.impN p L n := by
    intro n
    induction n with
    | zero => intro _; rfl
    | succ n ih => intro h; simp only [Sc.impN]; rw [ih (by omega), hb1 n (by omega)]
  have h2 : ∀ n, n ≤ q.size → Sc.impN (p ++ q) L (p.size + n) = Sc.impN q (Sc.impL p L) n := by
    intro n
    induction n with
    | zero => intro _; exact h1 p.size (Nat.le_refl _)
    | succ n ih =>
      intro h
      rw [← Nat.add_assoc]
      simp only [Sc.impN]
      rw [ih (by omega), hb2 n (by omega)]
  have := h2 q.size (Nat.le_refl _)
  unfold Sc.impL at this ⊢
  rw [ByteArray.size_append]
  exact this
set_option maxRecDepth 100000 in
set_option maxHeartbeats 4000000 in
theorem chained_walk (w : World) (la lp lr : Option Addr) (na ca np cp nr cr : Nat) (za zp zr : Nat → Int) (hA : RawRow w w.heap.size la na za) (hP : RawRow w w.heap.size lp np zp) (hR : RawRow w w.heap.size lr nr zr) (ma : na ≤ maxLen) (mp : np ≤ maxLen) (mr : nr ≤ maxLen) :
    Calls Try.prog 10 #[.slice la na ca, .slice lp np cp, .slice lr nr cr] w fun e w' => e = .returned (.bool true) ∧ Below w.heap.size w w' := by
  have hC := hid (code_any w la na ca za 1024 hA ma (by omega) (by omega))
  have HR := hid hR
  have HP := hid hP
  clear hA hR hP
  go_enter Try.func10, Try.ntmps10
  go_wp2_with fail
  refine hC.out.mono ?_
  rintro e w1 ⟨v, n, rfl, hn1, hn2, hg1, ho1⟩
  clear hC
  obtain ⟨sa, sc, rfl⟩ := owns_slice ho1
  have hSL := codeP_sound na za n hn1 (by omega)
  have hlen := codeP_len na za n n
  generalize codeP na za n n = L at *
  subst hlen
  have HSL := hid hSL
  have HG1 := hid hg1
  have hB := hid (kBytes_any w1 sa sc L (InsAt.of_own rfl ho1) hSL)
  clear hg1 hSL ho1
  go_wp2_with fail
  refine hB.out.mono ?_
  rintro e w2 ⟨rfl, hg2⟩
  have HG2 := hid (gb_trans HG1.out hg2)
  clear hB hg2 HG1
  have hPs := hid (kPasses_any w2 lp np cp zp (raw_on HP.out (Nat.le_refl _) HG2.out) mp 6 (by omega))
  go_wp2_with fail
  refine hPs.out.mono ?_
  rintro e w3 ⟨P, rfl, hp6, rfl⟩
  clear hPs HP
  have hQs := hid (kPasses_any w3 lr nr cr zr (raw_on HR.out (Nat.le_refl _) HG2.out) mr 6 (by omega))
  go_wp2_with fail
  refine hQs.out.mono ?_
  rintro e w4 ⟨Q, rfl, hq6, rfl⟩
  clear hQs HR
  have hbP : Hid (Better1 L (Sc.impL P L)) := impN_better P HSL.out P.size
  have hI1 := hid (kImproved_any w4 L (P ++ Q) HSL.out (by rw [ByteArray.size_append]; omega))
  have hI2 := hid (fun w => kImproved_any w L P HSL.out (by omega))
  have hI3 := hid (fun w => kImproved_any w (Sc.impL P L) Q hbP.out.sound (by omega))
  rw [impN_app] at hI1
  generalize bytesOf (Sc.impL Q (Sc.impL P L)) = T at *
  generalize bytesOf (Sc.impL P L) = H at *
  generalize bytesOf L = S at *
  clear hbP HSL
  go_wp2_with fail
  refine hI1.out.mono ?_
  rintro e w5 ⟨rfl, hg5⟩
  have HG5 := hid (gb_trans HG2.out hg5)
  clear hI1 hg5 HG2
  go_wp2_with fail
  refine (hI2.out _).mono ?_
  rintro e w6 ⟨rfl, hg6⟩
  have HG6 := hid (gb_trans HG5.out hg6)
  clear hI2 hg6 HG5
  go_wp2_with fail
  refine (hI3.out _).mono ?_
  rintro e w7 ⟨rfl, hg7⟩
  have HG7 := hid (gb_trans HG6.out hg7)
  clear hI3 hg7 HG6
  go_wp2_with fail
  go_ret
  exact ⟨by simp, gb_below HG7.out⟩
end Go.Proofs.Ytldongbimhngfaa
