import Derived.Test.YtldongbimhngfaaAt2
namespace Go.Proofs.Ytldongbimhngfaa
open Go.RowKit
set_option linter.unusedVariables false
set_option linter.unusedSimpArgs false

/-- the digit of an argument -/
theorem dig_slice (i : Int) (h0 : 0 ≤ i) (h1 : i ≤ 3) : ∃ d : UInt8, (d.toNat : Int) = 48 + i ∧ (ByteArray.mk #[48, 49, 50, 51]).extract i.toNat (i + 1).toNat = ⟨#[d]⟩ := by
  have : i = 0 ∨ i = 1 ∨ i = 2 ∨ i = 3 := by omega
  rcases this with rfl | rfl | rfl | rfl
  · exact ⟨48, by decide, by decide⟩
  · exact ⟨49, by decide, by decide⟩
  · exact ⟨50, by decide, by decide⟩
  · exact ⟨51, by decide, by decide⟩

/-- the argument i of a record that is made -/
def argX (ll : Nat) (z : Nat → Int) (i : Int) : Int := (wd ll z (2 + 2 * i).toNat : Int) + 65536 * (wd ll z (3 + 2 * i).toNat : Int)
theorem argX_words (ll : Nat) (z : Nat → Int) (i : Int) (d : UInt8) (hd : (d.toNat : Int) = 48 + i) (h0 : 0 ≤ i) (h1 : i ≤ 3) :
    Sv.wordAt ⟨(recB ll z 10).toArray⟩ (4 + 4 * ((d.toNat : Int) - 48)) = (wd ll z (2 + 2 * i).toNat : Int) ∧ Sv.wordAt ⟨(recB ll z 10).toArray⟩ (4 + 4 * ((d.toNat : Int) - 48) + 2) = (wd ll z (3 + 2 * i).toNat : Int) := by
  have a := rec_word ll z (2 + 2 * i).toNat (by omega)
  have b := rec_word ll z (3 + 2 * i).toNat (by omega)
  have e1 : ((2 * (2 + 2 * i).toNat : Nat) : Int) = 4 + 4 * ((d.toNat : Int) - 48) := by omega
  have e2 : ((2 * (3 + 2 * i).toNat : Nat) : Int) = 4 + 4 * ((d.toNat : Int) - 48) + 2 := by omega
  rw [e1] at a
  rw [e2] at b
  exact ⟨a, b⟩

theorem relOk_arg {ll : Nat} {z : Nat → Int} {i : Int} {d : UInt8} (hd : (d.toNat : Int) = 48 + i) (h0 : 0 ≤ i) (h1 : i ≤ 3) (y : Int) (y0 : 0 ≤ y) (y1 : y < 4294967296) :
    RelOk ⟨(recB ll z 10).toArray⟩ (ByteArray.mk #[97] ++ ByteArray.mk #[d]) (hexS (y / 65536) ++ hexS (y % 65536)) (argX ll z i) y := by
  intro op hop
  obtain ⟨w1, w2⟩ := argX_words ll z i d hd h0 h1
  have b1 := wd_lt ll z (2 + 2 * i).toNat
  have b2 := wd_lt ll z (3 + 2 * i).toNat
  have hir : Sv.isRel (op.toNat : Int) = true := by rcases hop with rfl | rfl | rfl <;> rfl
  refine ⟨[⟨4, 4 + 4 * ((d.toNat : Int) - 48), 65535, 65535, Sv.relCode op.toNat, ((y / 65536).toNat : Int), ((y % 65536).toNat : Int)⟩], ?_, ?_⟩
  · have := cond_one (term_rel (a := (y / 65536).toNat) (b := (y % 65536).toNat) (d := d) (by omega) (by omega) hop (by omega) (by omega)) (by simp) rfl
    simpa [hexS_list] using this
  · rw [hN_one rfl, Sv.cmp_arg _ _ _ _ _ (by rw [w1]; omega) (by rw [w1]; omega) (by rw [w2]; omega) (by rw [w2]; omega) (by omega) (by omega) hir, w1, w2]
    have e : 65536 * ((y / 65536).toNat : Int) + ((y % 65536).toNat : Int) = y := by omega
    rw [e]
    rfl
theorem mask_arg {ll : Nat} {z : Nat → Int} {i : Int} {d : UInt8} (hd : (d.toNat : Int) = 48 + i) (h0 : 0 ≤ i) (h1 : i ≤ 3) (m y : Int) (m0 : 0 ≤ m) (m1 : m < 4294967296) (y0 : 0 ≤ y) (y1 : y < 4294967296) :
    ∃ ts, CondReads (ByteArray.mk #[97] ++ ByteArray.mk #[d] ++ ByteArray.mk #[38] ++ hexS (m / 65536) ++ hexS (m % 65536) ++ ByteArray.mk #[61] ++ hexS (y / 65536) ++ hexS (y % 65536)).data.toList ts 1 ∧
      hN ⟨(recB ll z 10).toArray⟩ ts = if (Sv.land (argX ll z i) m == y) = true then 1 else 0 := by
  obtain ⟨w1, w2⟩ := argX_words ll z i d hd h0 h1
  have b1 := wd_lt ll z (2 + 2 * i).toNat
  have b2 := wd_lt ll z (3 + 2 * i).toNat
  refine ⟨[⟨4, 4 + 4 * ((d.toNat : Int) - 48), ((m / 65536).toNat : Int), ((m % 65536).toNat : Int), 0, ((y / 65536).toNat : Int), ((y % 65536).toNat : Int)⟩], ?_, ?_⟩
  · have := cond_one (term_mask (a := (m / 65536).toNat) (b := (m % 65536).toNat) (x := (y / 65536).toNat) (y := (y % 65536).toNat) (d := d) (by omega) (by omega) (by omega) (by omega) (by omega) (by omega)) (by simp) rfl
    simpa [hexS_list] using this
  · rw [hN_one rfl, Sv.cmp_mask _ _ _ _ _ _ (by rw [w1]; omega) (by rw [w1]; omega) (by rw [w2]; omega) (by omega) (by omega) (by omega) (by omega) (by omega), w1, w2]
    have e : 65536 * ((y / 65536).toNat : Int) + ((y % 65536).toNat : Int) = y := by omega
    have e2 : 65536 * ((m / 65536).toNat : Int) + ((m % 65536).toNat : Int) = m := by omega
    rw [e, e2]
    rfl
theorem land_bd (x m : Int) (m0 : 0 ≤ m) (m1 : m < 4294967296) : 0 ≤ Sv.land x m ∧ Sv.land x m < 4294967296 := by
  unfold Sv.land
  have := @Nat.and_le_right x.toNat m.toNat
  omega

set_option maxRecDepth 100000 in
set_option maxHeartbeats 8000000 in
theorem atoms_lo (w : World) (lr : Option Addr) (nr cr : Nat) (zr : Nat → Int) (wh c hg mk : Int) (hR : RawRow w w.heap.size lr nr zr) (mr : nr ≤ maxLen)
    (w0 : -9223372036854775808 ≤ wh) (w1 : wh ≤ 9223372036854775807) (c0 : -9223372036854775808 ≤ c) (c1 : c ≤ 9223372036854775807)
    (g0 : -9223372036854775808 ≤ hg) (g1 : hg ≤ 9223372036854775807) (k0 : -9223372036854775808 ≤ mk) (k1 : mk ≤ 9223372036854775807) (i : Int) (i0 : 0 ≤ i) (i3 : i ≤ 3) (hi : pk wh 6 = i) :
    Calls Try.prog 5 #[.int .i64 wh, .slice lr nr cr, .int .i64 c, .int .i64 hg, .int .i64 mk] w fun e w' => e = .returned (.bool true) ∧ Below w.heap.size w w' := by
  obtain ⟨d, hd, hext⟩ := dig_slice i i0 i3
  have hRc := hid (record_any w lr nr cr zr hR mr)
  have hP6 := hid (fun w => pick_any w wh 6 w0 w1 (by omega) (by omega))
  rw [hi] at hP6
  have nb1 := nz_bd hR (2 + 2 * i).toNat
  have nb2 := nz_bd hR (3 + 2 * i).toNat
  have hPl := hid (fun w => pick_any w (nz nr zr (2 + 2 * i).toNat) 65536 nb1.1 nb1.2 (by omega) (by omega))
  have hPu := hid (fun w => pick_any w (nz nr zr (3 + 2 * i).toNat) 65536 nb2.1 nb2.2 (by omega) (by omega))
  rw [nz_wd] at hPl hPu
  have b1 := wd_lt nr zr (2 + 2 * i).toNat
  have b2 := wd_lt nr zr (3 + 2 * i).toNat
  have xeq : (wd nr zr (2 + 2 * i).toNat : Int) + 65536 * (wd nr zr (3 + 2 * i).toNat : Int) = argX nr zr i := rfl
  have x0 : 0 ≤ argX nr zr i := by omega
  have x1 : argX nr zr i < 4294967296 := by omega
  have hsl := fun wx => run_slice_string (P := Try.prog) wx 9 (ByteArray.mk #[48, 49, 50, 51]) .i64 .i64 i (i + 1) Try.underlying9 i0 (by omega) (by show i + 1 ≤ 4; omega)
  rw [hext] at hsl
  clear hext
  have hNear1 := hid (fun w => near_any w (argX nr zr i) c 65536 x0 (by omega) c0 c1 (by omega) (by omega))
  have r1 := nearV_range (argX nr zr i) c 65536 (by omega)
  have hPh := hid (fun w => pick_any w hg 65536 g0 g1 (by omega) (by omega))
  have r2 := pk_range hg 65536 (by omega)
  have hP3 := hid (fun w => pick_any w hg 3 g0 g1 (by omega) (by omega))
  have hNear2 := hid (fun w => near_any w (argX nr zr i) c 4294967296 x0 (by omega) c0 c1 (by omega) (by omega))
  have r3 := nearV_range (argX nr zr i) c 4294967296 (by omega)
  have hPm := hid (fun w => pick_any w mk 4294967296 k0 k1 (by omega) (by omega))
  have r4 := pk_range mk 4294967296 (by omega)
  have hr20 := hid (rec_size nr zr)
  have HR := hid hR
  have hlb := land_bd (argX nr zr i) (pk mk 4294967296) r4.1 r4.2
  have hbits := i64_land (argX nr zr i) (pk mk 4294967296) x0 x1 r4.1 r4.2
  have hMask := hid (fun y y0 y1 => mask_arg (ll := nr) (z := zr) hd i0 i3 (pk mk 4294967296) y r4.1 r4.2 y0 y1)
  have hRel := hid (fun y y0 y1 => relOk_arg (ll := nr) (z := zr) hd i0 i3 y y0 y1)
  have l0 : (0 : Int) ≤ (wd nr zr (2 + 2 * i).toNat : Int) := by omega
  have l1 : (wd nr zr (2 + 2 * i).toNat : Int) ≤ 65535 := by omega
  have u0 : (0 : Int) ≤ (wd nr zr (3 + 2 * i).toNat : Int) := by omega
  have u1 : (wd nr zr (3 + 2 * i).toNat : Int) ≤ 65535 := by omega
  obtain ⟨r10, r11⟩ := r1
  obtain ⟨r20, r21⟩ := r2
  obtain ⟨r30, r31⟩ := r3
  obtain ⟨r40, r41⟩ := r4
  obtain ⟨lb0, lb1⟩ := hlb
  clear hR nb1 nb2 hi b1 b2 w0 w1 c0 c1 g0 g1 k0 k1 hd
  generalize nearV (argX nr zr i) c 65536 = n1 at *
  generalize nearV (argX nr zr i) c 4294967296 = n2 at *
  generalize pk mk 4294967296 = m at *
  generalize pk hg 65536 = h1 at *
  generalize pk hg 3 = h3 at *
  generalize Sv.land (argX nr zr i) m = b at *
  generalize argX nr zr i = x at *
  generalize (wd nr zr (2 + 2 * i).toNat : Int) = low at *
  generalize (wd nr zr (3 + 2 * i).toNat : Int) = up at *
  generalize hrr : (⟨(recB nr zr 10).toArray⟩ : ByteArray) = r at *
  clear hrr
  have hds : (ByteArray.mk #[d]).size ≤ 1 := by show 1 ≤ 1; omega
  generalize hDD : ByteArray.mk #[d] = D at *
  clear hDD
  go_enter Try.func5, Try.ntmps5
  go_wp2_with fail
  refine hRc.out.mono ?_
  rintro e w2 ⟨rfl, hg2⟩
  clear hRc
  go_wp2_with fail
  refine (hP6.out _).mono ?_
  rintro e w3 ⟨rfl, hw⟩
  subst hw
  clear hP6
  have hRow := hid (HR.out.later hg2)
  have Hg := hid hg2
  clear hg2
  have hDm : D.size ≤ 1 := hds
  have hNl := hid (numberK_int w3 lr nr cr zr (2 + 2 * i) hRow.out mr (by omega) (by omega))
  have hNu := hid (numberK_int w3 lr nr cr zr (3 + 2 * i) hRow.out mr (by omega) (by omega))
  go_wp2_with fail
  refine hNl.out.mono ?_
  rintro e w9 ⟨rfl, hw⟩
  subst hw
  go_wp2_with fail
  refine (hPl.out _).mono ?_
  rintro e w9 ⟨rfl, hw⟩
  subst hw
  go_wp2_with fail
  refine hNu.out.mono ?_
  rintro e w9 ⟨rfl, hw⟩
  subst hw
  go_wp2_with fail
  refine (hPu.out _).mono ?_
  rintro e w9 ⟨rfl, hw⟩
  subst hw
  clear hNl hNu hPl hPu hRow HR hsl
  go_wp2_with fail
  refine (hNear1.out _).mono ?_
  rintro e w9 ⟨rfl, hw⟩
  subst hw
  go_wp2_with fail
  refine (hPh.out _).mono ?_
  rintro e w9 ⟨rfl, hw⟩
  subst hw
  clear hNear1 hPh
  by_cases h30 : h3 = 0
  · have hb3 : (h3 == 0) = true := by simp [h30]
    clear h30
    go_wp2_with fail
    refine (hP3.out _).mono ?_
    rintro e w9 ⟨rfl, hw⟩
    subst hw
    go_wp2_with fail
    refine (hNear2.out _).mono ?_
    rintro e w9 ⟨rfl, hw⟩
    subst hw
    clear hP3 hNear2
    have y0 : 0 ≤ n2 := r30
    have y1 : n2 < 4294967296 := r31
    generalize n2 = Y at *
    go_wp2_with fail
    refine (hPm.out _).mono ?_
    rintro e w9 ⟨rfl, hw⟩
    subst hw
    have y65 : 0 ≤ Y / 65536 := by omega
    have y66 : Y / 65536 < 65536 := by omega
    have y67 : 0 ≤ Y % 65536 := by omega
    have y68 : Y % 65536 < 65536 := by omega
    have X1 := hid (fun w => hexS_any w (m / 65536) (by omega) (by omega))
    have X2 := hid (fun w => hexS_any w (m % 65536) (by omega) (by omega))
    have X3 := hid (fun w => hexS_any w (b / 65536) (by omega) (by omega))
    have X4 := hid (fun w => hexS_any w (b % 65536) (by omega) (by omega))
    have X5 := hid (fun w => hexS_any w (Y / 65536) y65 y66)
    have X6 := hid (fun w => hexS_any w (Y % 65536) y67 y68)
    have z1 : (hexS (m / 65536)).size ≤ 4 := Nat.le_of_eq (hexS_size _)
    have z2 : (hexS (m % 65536)).size ≤ 4 := Nat.le_of_eq (hexS_size _)
    have z3 : (hexS (b / 65536)).size ≤ 4 := Nat.le_of_eq (hexS_size _)
    have z4 : (hexS (b % 65536)).size ≤ 4 := Nat.le_of_eq (hexS_size _)
    have z5 : (hexS (Y / 65536)).size ≤ 4 := Nat.le_of_eq (hexS_size _)
    have z6 : (hexS (Y % 65536)).size ≤ 4 := Nat.le_of_eq (hexS_size _)
    obtain ⟨t1, q1, q2⟩ := hMask.out b lb0 lb1
    obtain ⟨t2, q3, q4⟩ := hMask.out Y y0 y1
    have hRl := hid (hRel.out Y y0 y1)
    have q2b : hN r t1 = 1 := by rw [q2]; simp
    have hbb : (b == Y) = true ∨ (b == Y) = false := by cases (b == Y) <;> simp
    have sz1 : (ByteArray.mk #[97] ++ D ++ ByteArray.mk #[38] ++ hexS (m / 65536) ++ hexS (m % 65536) ++ ByteArray.mk #[61] ++ hexS (b / 65536) ++ hexS (b % 65536)).size ≤ 500 := by
      simp only [ByteArray.size_append]; show 1 + D.size + 1 + _ + _ + 1 + _ + _ ≤ 500; omega
    have sz2 : (ByteArray.mk #[97] ++ D ++ ByteArray.mk #[38] ++ hexS (m / 65536) ++ hexS (m % 65536) ++ ByteArray.mk #[61] ++ hexS (Y / 65536) ++ hexS (Y % 65536)).size ≤ 500 := by
      simp only [ByteArray.size_append]; show 1 + D.size + 1 + _ + _ + 1 + _ + _ ≤ 500; omega
    have A1 := hid (fun w => asked_any w _ r t1 q1 sz1 hr20.out)
    have A2 := hid (fun w => asked_any w _ r t2 q3 sz2 hr20.out)
    rw [q2b] at A1
    rw [q4] at A2
    have sn : (ByteArray.mk #[97] ++ D).size ≤ 10 := by simp only [ByteArray.size_append]; show 1 + D.size ≤ 10; omega
    have sd : (hexS (Y / 65536) ++ hexS (Y % 65536)).size ≤ 10 := by simp only [ByteArray.size_append]; omega
    have A3 := hid (fun w => relatedK_any w _ _ r x Y sn sd hr20.out hRl.out)
    have F := hid flag_any
    clear q1 q2 q2b q3 q4 sz1 sz2 sn sd hRl hMask hRel
    rcases hbb with hbY | hbY
    all_goals
      rw [hbY] at A2
      go_wp2_with fail
      refine (X1.out _).mono ?_
      rintro e w9 ⟨rfl, hw⟩
      subst hw
      go_wp2_with fail
      refine (X2.out _).mono ?_
      rintro e w9 ⟨rfl, hw⟩
      subst hw
      go_wp2_with fail
      refine (X3.out _).mono ?_
      rintro e w9 ⟨rfl, hw⟩
      subst hw
      go_wp2_with fail
      refine (X4.out _).mono ?_
      rintro e w9 ⟨rfl, hw⟩
      subst hw
      go_wp2_with fail
      refine (A1.out _).mono ?_
      rintro e v1 ⟨rfl, hg1⟩
      replace Hg := hid (gb_trans Hg.out hg1)
      clear hg1
      go_wp2_with fail
      refine (X1.out _).mono ?_
      rintro e w9 ⟨rfl, hw⟩
      subst hw
      go_wp2_with fail
      refine (X2.out _).mono ?_
      rintro e w9 ⟨rfl, hw⟩
      subst hw
      go_wp2_with fail
      refine (X5.out _).mono ?_
      rintro e w9 ⟨rfl, hw⟩
      subst hw
      go_wp2_with fail
      refine (X6.out _).mono ?_
      rintro e w9 ⟨rfl, hw⟩
      subst hw
      go_wp2_with fail
      refine (A2.out _).mono ?_
      rintro e v2 ⟨rfl, hg1⟩
      replace Hg := hid (gb_trans Hg.out hg1)
      clear hg1
      go_wp2_with fail
      refine (X5.out _).mono ?_
      rintro e w9 ⟨rfl, hw⟩
      subst hw
      go_wp2_with fail
      refine (X6.out _).mono ?_
      rintro e w9 ⟨rfl, hw⟩
      subst hw
      go_wp2_with fail
      refine (A3.out _).mono ?_
      rintro e v3 ⟨rfl, hg1⟩
      replace Hg := hid (gb_trans Hg.out hg1)
      clear hg1
      go_wp2_with fail
      refine (F.out _ _).mono ?_
      rintro e w9 ⟨rfl, hw⟩
      subst hw
      go_wp2_with fail
      go_ret
      exact ⟨by simp, gb_below Hg.out⟩
  · have hb3 : (h3 == 0) = false := by simp [h30]
    clear h30
    go_wp2_with fail
    refine (hP3.out _).mono ?_
    rintro e w9 ⟨rfl, hw⟩
    subst hw
    clear hP3 hNear2
    have y0 : 0 ≤ n1 + 65536 * h1 := by omega
    have y1 : n1 + 65536 * h1 < 4294967296 := by omega
    generalize n1 + 65536 * h1 = Y at *
    go_wp2_with fail
    refine (hPm.out _).mono ?_
    rintro e w9 ⟨rfl, hw⟩
    subst hw
    have y65 : 0 ≤ Y / 65536 := by omega
    have y66 : Y / 65536 < 65536 := by omega
    have y67 : 0 ≤ Y % 65536 := by omega
    have y68 : Y % 65536 < 65536 := by omega
    have X1 := hid (fun w => hexS_any w (m / 65536) (by omega) (by omega))
    have X2 := hid (fun w => hexS_any w (m % 65536) (by omega) (by omega))
    have X3 := hid (fun w => hexS_any w (b / 65536) (by omega) (by omega))
    have X4 := hid (fun w => hexS_any w (b % 65536) (by omega) (by omega))
    have X5 := hid (fun w => hexS_any w (Y / 65536) y65 y66)
    have X6 := hid (fun w => hexS_any w (Y % 65536) y67 y68)
    have z1 : (hexS (m / 65536)).size ≤ 4 := Nat.le_of_eq (hexS_size _)
    have z2 : (hexS (m % 65536)).size ≤ 4 := Nat.le_of_eq (hexS_size _)
    have z3 : (hexS (b / 65536)).size ≤ 4 := Nat.le_of_eq (hexS_size _)
    have z4 : (hexS (b % 65536)).size ≤ 4 := Nat.le_of_eq (hexS_size _)
    have z5 : (hexS (Y / 65536)).size ≤ 4 := Nat.le_of_eq (hexS_size _)
    have z6 : (hexS (Y % 65536)).size ≤ 4 := Nat.le_of_eq (hexS_size _)
    obtain ⟨t1, q1, q2⟩ := hMask.out b lb0 lb1
    obtain ⟨t2, q3, q4⟩ := hMask.out Y y0 y1
    have hRl := hid (hRel.out Y y0 y1)
    have q2b : hN r t1 = 1 := by rw [q2]; simp
    have hbb : (b == Y) = true ∨ (b == Y) = false := by cases (b == Y) <;> simp
    have sz1 : (ByteArray.mk #[97] ++ D ++ ByteArray.mk #[38] ++ hexS (m / 65536) ++ hexS (m % 65536) ++ ByteArray.mk #[61] ++ hexS (b / 65536) ++ hexS (b % 65536)).size ≤ 500 := by
      simp only [ByteArray.size_append]; show 1 + D.size + 1 + _ + _ + 1 + _ + _ ≤ 500; omega
    have sz2 : (ByteArray.mk #[97] ++ D ++ ByteArray.mk #[38] ++ hexS (m / 65536) ++ hexS (m % 65536) ++ ByteArray.mk #[61] ++ hexS (Y / 65536) ++ hexS (Y % 65536)).size ≤ 500 := by
      simp only [ByteArray.size_append]; show 1 + D.size + 1 + _ + _ + 1 + _ + _ ≤ 500; omega
    have A1 := hid (fun w => asked_any w _ r t1 q1 sz1 hr20.out)
    have A2 := hid (fun w => asked_any w _ r t2 q3 sz2 hr20.out)
    rw [q2b] at A1
    rw [q4] at A2
    have sn : (ByteArray.mk #[97] ++ D).size ≤ 10 := by simp only [ByteArray.size_append]; show 1 + D.size ≤ 10; omega
    have sd : (hexS (Y / 65536) ++ hexS (Y % 65536)).size ≤ 10 := by simp only [ByteArray.size_append]; omega
    have A3 := hid (fun w => relatedK_any w _ _ r x Y sn sd hr20.out hRl.out)
    have F := hid flag_any
    clear q1 q2 q2b q3 q4 sz1 sz2 sn sd hRl hMask hRel
    rcases hbb with hbY | hbY
    all_goals
      rw [hbY] at A2
      go_wp2_with fail
      refine (X1.out _).mono ?_
      rintro e w9 ⟨rfl, hw⟩
      subst hw
      go_wp2_with fail
      refine (X2.out _).mono ?_
      rintro e w9 ⟨rfl, hw⟩
      subst hw
      go_wp2_with fail
      refine (X3.out _).mono ?_
      rintro e w9 ⟨rfl, hw⟩
      subst hw
      go_wp2_with fail
      refine (X4.out _).mono ?_
      rintro e w9 ⟨rfl, hw⟩
      subst hw
      go_wp2_with fail
      refine (A1.out _).mono ?_
      rintro e v1 ⟨rfl, hg1⟩
      replace Hg := hid (gb_trans Hg.out hg1)
      clear hg1
      go_wp2_with fail
      refine (X1.out _).mono ?_
      rintro e w9 ⟨rfl, hw⟩
      subst hw
      go_wp2_with fail
      refine (X2.out _).mono ?_
      rintro e w9 ⟨rfl, hw⟩
      subst hw
      go_wp2_with fail
      refine (X5.out _).mono ?_
      rintro e w9 ⟨rfl, hw⟩
      subst hw
      go_wp2_with fail
      refine (X6.out _).mono ?_
      rintro e w9 ⟨rfl, hw⟩
      subst hw
      go_wp2_with fail
      refine (A2.out _).mono ?_
      rintro e v2 ⟨rfl, hg1⟩
      replace Hg := hid (gb_trans Hg.out hg1)
      clear hg1
      go_wp2_with fail
      refine (X5.out _).mono ?_
      rintro e w9 ⟨rfl, hw⟩
      subst hw
      go_wp2_with fail
      refine (X6.out _).mono ?_
      rintro e w9 ⟨rfl, hw⟩
      subst hw
      go_wp2_with fail
      refine (A3.out _).mono ?_
      rintro e v3 ⟨rfl, hg1⟩
      replace Hg := hid (gb_trans Hg.out hg1)
      clear hg1
      go_wp2_with fail
      refine (F.out _ _).mono ?_
      rintro e w9 ⟨rfl, hw⟩
      subst hw
      go_wp2_with fail
      go_ret
      exact ⟨by simp, gb_below Hg.out⟩
end Go.Proofs.Ytldongbimhngfaa
