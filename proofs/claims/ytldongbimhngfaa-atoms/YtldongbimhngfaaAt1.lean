import Derived.Test.YtldongbimhngfaaKp8
namespace Go.Proofs.Ytldongbimhngfaa
open Go.RowKit
set_option linter.unusedVariables false
set_option linter.unusedSimpArgs false

/-- the number i of a list -/
def nz (ll : Nat) (z : Nat → Int) (i : Nat) : Int := if i < ll then z i else 0
theorem nz_bd {w : World} {B : Nat} {a : Option Addr} {ll : Nat} {z : Nat → Int} (h : RawRow w B a ll z) (i : Nat) : -9223372036854775808 ≤ nz ll z i ∧ nz ll z i ≤ 9223372036854775807 := by
  unfold nz
  split
  · next hi => obtain ⟨_, _, _, _, _, h4, h5⟩ := h i hi; exact ⟨h4, h5⟩
  · omega
theorem nz_wd (ll : Nat) (z : Nat → Int) (i : Nat) : pk (nz ll z i) 65536 = (wd ll z i : Int) := by
  have := pk_range (z i) 65536 (by omega)
  unfold nz wd
  split
  · omega
  · rfl
set_option maxRecDepth 100000 in
set_option maxHeartbeats 1000000 in
theorem numberK_any (w : World) (la : Option Addr) (ll lc : Nat) (z : Nat → Int) (i : Nat) (hR : RawRow w w.heap.size la ll z) (hll : ll ≤ maxLen) (hi : i ≤ 20) :
    Calls Try.prog 21 #[.slice la ll lc, .int .i64 (i : Int)] w fun e w' => e = .returned (.int .i64 (nz ll z i)) ∧ w' = w := by
  unfold maxLen at hll
  have d0 : decide ((i : Int) < 0) = false := by simp
  by_cases hlt : i < ll
  · obtain ⟨b, off, rfl, hb, hc, _, _⟩ := hR i hlt
    have d1 : decide ((ll : Int) ≤ (i : Int)) = false := by simp; omega
    have hv : Hid (nz ll z i = z i) := by unfold Hid nz; rw [if_pos hlt]
    clear hR
    generalize z i = zz at *
    go_enter Try.func21, Try.ntmps21
    go_wp2_with fail
    go_ret
    rw [hv.out]
    exact ⟨rfl, rfl⟩
  · have d1 : decide ((ll : Int) ≤ (i : Int)) = true := by simp; omega
    have hv : Hid (nz ll z i = 0) := by unfold Hid nz; rw [if_neg hlt]
    clear hR
    go_enter Try.func21, Try.ntmps21
    go_wp2_with fail
    go_ret
    rw [hv.out]
    exact ⟨rfl, rfl⟩

theorem numberK_int (w : World) (la : Option Addr) (ll lc : Nat) (z : Nat → Int) (a : Int) (hR : RawRow w w.heap.size la ll z) (hll : ll ≤ maxLen) (h0 : 0 ≤ a) (h1 : a ≤ 20) :
    Calls Try.prog 21 #[.slice la ll lc, .int .i64 a] w fun e w' => e = .returned (.int .i64 (nz ll z a.toNat)) ∧ w' = w := by
  obtain ⟨i, rfl⟩ := Int.eq_ofNat_of_zero_le h0
  rw [Int.toNat_natCast]
  exact numberK_any w la ll lc z i hR hll (by omega)

/-- near: a number below n -/
def nearV (v c n : Int) : Int := if pk c 8 < 3 ∧ 0 ≤ v + pk c 8 - 1 ∧ v + pk c 8 - 1 < n then v + pk c 8 - 1 else pk c n
theorem nearV_range (v c n : Int) (hn : 0 < n) : 0 ≤ nearV v c n ∧ nearV v c n < n := by
  unfold nearV
  split
  · omega
  · exact pk_range c n hn
set_option maxRecDepth 100000 in
set_option maxHeartbeats 2000000 in
theorem near_any (w : World) (v c n : Int) (v0 : 0 ≤ v) (v1 : v ≤ 4294967296) (c0 : -9223372036854775808 ≤ c) (c1 : c ≤ 9223372036854775807) (n0 : 0 < n) (n1 : n ≤ 4294967296) :
    Calls Try.prog 22 #[.int .i64 v, .int .i64 c, .int .i64 n] w fun e w' => e = .returned (.int .i64 (nearV v c n)) ∧ w' = w := by
  have hp8 := pk_range c 8 (by omega)
  have hP := fun w => pick_any w c 8 c0 c1 (by omega) (by omega)
  have hPn := fun w => pick_any w c n c0 c1 n0 (by omega)
  have hv : Hid (nearV v c n = if pk c 8 < 3 ∧ 0 ≤ v + pk c 8 - 1 ∧ v + pk c 8 - 1 < n then v + pk c 8 - 1 else pk c n) := rfl
  generalize pk c 8 = k at *
  obtain ⟨k0, k1⟩ := hp8
  by_cases q1 : k < 3
  · have d1 : decide (k < 3) = true := decide_eq_true q1
    by_cases q2 : 0 ≤ v + k - 1
    · have d2 : decide (0 ≤ v + k - 1) = true := decide_eq_true q2
      by_cases q3 : v + k - 1 < n
      · have d3 : decide (v + k - 1 < n) = true := decide_eq_true q3
        replace hv : Hid (nearV v c n = v + k - 1) := by unfold Hid; rw [hv.out, if_pos ⟨q1, q2, q3⟩]
        go_enter Try.func22, Try.ntmps22
        go_wp2_with fail
        refine (hP _).mono ?_
        rintro e w1 ⟨rfl, hw⟩
        subst hw
        clear hP hPn
        go_wp2_with fail
        go_ret
        rw [hv.out]
        exact ⟨rfl, rfl⟩
      · have d3 : decide (v + k - 1 < n) = false := decide_eq_false q3
        replace hv : Hid (nearV v c n = pk c n) := by unfold Hid; rw [hv.out, if_neg (fun h => q3 h.2.2)]
        go_enter Try.func22, Try.ntmps22
        go_wp2_with fail
        refine (hP _).mono ?_
        rintro e w1 ⟨rfl, hw⟩
        subst hw
        clear hP
        go_wp2_with fail
        refine (hPn _).mono ?_
        rintro e w1 ⟨rfl, hw⟩
        subst hw
        clear hPn
        go_wp2_with fail
        go_ret
        rw [hv.out]
        exact ⟨rfl, rfl⟩
    · have d2 : decide (0 ≤ v + k - 1) = false := decide_eq_false q2
      replace hv : Hid (nearV v c n = pk c n) := by unfold Hid; rw [hv.out, if_neg (fun h => q2 h.2.1)]
      go_enter Try.func22, Try.ntmps22
      go_wp2_with fail
      refine (hP _).mono ?_
      rintro e w1 ⟨rfl, hw⟩
      subst hw
      clear hP
      go_wp2_with fail
      refine (hPn _).mono ?_
      rintro e w1 ⟨rfl, hw⟩
      subst hw
      clear hPn
      go_wp2_with fail
      go_ret
      rw [hv.out]
      exact ⟨rfl, rfl⟩
  · have d1 : decide (k < 3) = false := decide_eq_false q1
    replace hv : Hid (nearV v c n = pk c n) := by unfold Hid; rw [hv.out, if_neg (fun h => q1 h.1)]
    go_enter Try.func22, Try.ntmps22
    go_wp2_with fail
    refine (hP _).mono ?_
    rintro e w1 ⟨rfl, hw⟩
    subst hw
    clear hP
    go_wp2_with fail
    refine (hPn _).mono ?_
    rintro e w1 ⟨rfl, hw⟩
    subst hw
    clear hPn
    go_wp2_with fail
    go_ret
    rw [hv.out]
    exact ⟨rfl, rfl⟩

/-- the words of a record that is made -/
theorem rec_byte (ll : Nat) (z : Nat → Int) (n k : Nat) (hk : k < n) : (recB ll z n)[2 * k]? = some (wd ll z k % 256).toUInt8 ∧ (recB ll z n)[2 * k + 1]? = some (wd ll z k / 256).toUInt8 := by
  induction n with
  | zero => omega
  | succ n ih =>
    simp only [recB]
    have hl := recB_len ll z n
    by_cases h : k < n
    · rw [List.getElem?_append_left (by omega), List.getElem?_append_left (by omega)]
      exact ih h
    · have hkn : k = n := by omega
      subst hkn
      rw [List.getElem?_append_right (by omega), List.getElem?_append_right (by omega), hl]
      have e1 : 2 * k - 2 * k = 0 := by omega
      have e2 : 2 * k + 1 - 2 * k = 1 := by omega
      rw [e1, e2]
      exact ⟨rfl, rfl⟩
theorem byteAt_get {l : List UInt8} {i : Nat} {b : UInt8} (h : l[i]? = some b) : Sv.byteAt ⟨l.toArray⟩ i = (b.toNat : Int) := by
  have hi := (List.getElem?_eq_some_iff.1 h).1
  have := at_self l i hi
  rw [Nat.zero_add] at this
  rw [this]
  rw [List.getElem?_eq_getElem hi] at h
  simp only [Option.some.injEq] at h
  rw [h]
theorem rec_word (ll : Nat) (z : Nat → Int) (k : Nat) (hk : k < 10) : Sv.wordAt ⟨(recB ll z 10).toArray⟩ ((2 * k : Nat) : Int) = (wd ll z k : Int) := by
  have h := rec_byte ll z 10 k hk
  have hb := wd_lt ll z k
  unfold Sv.wordAt
  rw [Int.toNat_natCast, byteAt_get h.1, byteAt_get h.2, u8_of _ (by omega), u8_of _ (by omega)]
  omega

theorem cond_one {a : List UInt8} {x : Sv.Tm} (h : TermReads a x) (hne : a ≠ []) (hk : x.kind = 4) : CondReads a [x] 1 := by
  have := CondReads.cons (m := 0) (k := 0) h hne (by rw [hk]; rfl) CondReads.nil
  rw [List.append_nil] at this
  exact this
theorem hN_one {r : ByteArray} {x : Sv.Tm} (hk : x.kind = 4) : hN r [x] = if Sv.cmp r x = true then 1 else 0 := by
  have : Sv.holds r [x] = Sv.cmp r x := by
    unfold Sv.holds Sv.ev; rw [hk]; simp [Sv.hd]
  unfold hN; rw [this]

/-- what related asks of its three conditions -/
def RelOk (r name digits : ByteArray) (x y : Int) : Prop := ∀ op : UInt8, RelB op → ∃ ts, CondReads (name.data.toList ++ (op :: digits.data.toList)) ts 1 ∧ hN r ts = if Sv.relB (op.toNat : Int) x y = true then 1 else 0
set_option maxRecDepth 100000 in
set_option maxHeartbeats 4000000 in
theorem relatedK_any (w : World) (name digits r : ByteArray) (x y : Int) (hn : name.size ≤ 10) (hd : digits.size ≤ 10) (hr : r.size = 20) (h : RelOk r name digits x y) :
    Calls Try.prog 23 #[.string name, .string digits, .string r, .int .i64 x, .int .i64 y] w fun e w' => e = .returned (.bool true) ∧ w.grownBy w' none := by
  obtain ⟨t1, c1, e1⟩ := h 61 (by simp [RelB])
  obtain ⟨t2, c2, e2⟩ := h 60 (by simp [RelB])
  obtain ⟨t3, c3, e3⟩ := h 62 (by simp [RelB])
  have s1 : (name ++ ByteArray.mk #[61] ++ digits).size ≤ 500 := by simp only [ByteArray.size_append]; show name.size + 1 + digits.size ≤ 500; omega
  have s2 : (name ++ ByteArray.mk #[60] ++ digits).size ≤ 500 := by simp only [ByteArray.size_append]; show name.size + 1 + digits.size ≤ 500; omega
  have s3 : (name ++ ByteArray.mk #[62] ++ digits).size ≤ 500 := by simp only [ByteArray.size_append]; show name.size + 1 + digits.size ≤ 500; omega
  have a1 := hid (fun w => asked_any w (name ++ ByteArray.mk #[61] ++ digits) r t1 (by simpa using c1) s1 hr)
  have a2 := hid (fun w => asked_any w (name ++ ByteArray.mk #[60] ++ digits) r t2 (by simpa using c2) s2 hr)
  have a3 := hid (fun w => asked_any w (name ++ ByteArray.mk #[62] ++ digits) r t3 (by simpa using c3) s3 hr)
  rw [e1] at a1
  rw [e2] at a2
  rw [e3] at a3
  have F := hid flag_any
  have g1 : Sv.relB ((61 : UInt8).toNat : Int) x y = (x == y) := rfl
  have g2 : Sv.relB ((60 : UInt8).toNat : Int) x y = decide (x < y) := rfl
  have g3 : Sv.relB ((62 : UInt8).toNat : Int) x y = decide (y < x) := rfl
  rw [g1] at a1
  rw [g2] at a2
  rw [g3] at a3
  clear c1 c2 c3 e1 e2 e3 s1 s2 s3 g1 g2 g3 h hr
  have hcase : x < y ∨ x = y ∨ y < x := by omega
  rcases hcase with hc | hc | hc
  · have b1 : (x == y) = false := by simp; omega
    have b2 : decide (x < y) = true := by simp [hc]
    have b3 : decide (y < x) = false := by simp; omega
    rw [b1] at a1
    rw [b2] at a2
    rw [b3] at a3
    go_enter Try.func23, Try.ntmps23
    go_wp2_with fail
    refine (a1.out _).mono ?_
    rintro e w1 ⟨rfl, h1⟩
    go_wp2_with fail
    refine (a2.out _).mono ?_
    rintro e w2 ⟨rfl, h2⟩
    go_wp2_with fail
    refine (a3.out _).mono ?_
    rintro e w3 ⟨rfl, h3⟩
    have Hg := hid (gb_trans (gb_trans h1 h2) h3)
    clear h1 h2 h3 a1 a2 a3
    go_wp2_with fail
    refine (F.out _ _).mono ?_
    rintro e w4 ⟨rfl, hw⟩
    subst hw
    go_wp2_with fail
    refine (F.out _ _).mono ?_
    rintro e w4 ⟨rfl, hw⟩
    subst hw
    go_wp2_with fail
    refine (F.out _ _).mono ?_
    rintro e w4 ⟨rfl, hw⟩
    subst hw
    go_wp2_with fail
    go_ret
    exact ⟨by simp, Hg.out⟩
  · subst hc
    have b1 : (x == x) = true := by simp
    have b2 : decide (x < x) = false := by simp
    rw [b1] at a1
    rw [b2] at a2 a3
    go_enter Try.func23, Try.ntmps23
    go_wp2_with fail
    refine (a1.out _).mono ?_
    rintro e w1 ⟨rfl, h1⟩
    go_wp2_with fail
    refine (a2.out _).mono ?_
    rintro e w2 ⟨rfl, h2⟩
    go_wp2_with fail
    refine (a3.out _).mono ?_
    rintro e w3 ⟨rfl, h3⟩
    have Hg := hid (gb_trans (gb_trans h1 h2) h3)
    clear h1 h2 h3 a1 a2 a3
    go_wp2_with fail
    refine (F.out _ _).mono ?_
    rintro e w4 ⟨rfl, hw⟩
    subst hw
    go_wp2_with fail
    refine (F.out _ _).mono ?_
    rintro e w4 ⟨rfl, hw⟩
    subst hw
    go_wp2_with fail
    refine (F.out _ _).mono ?_
    rintro e w4 ⟨rfl, hw⟩
    subst hw
    go_wp2_with fail
    go_ret
    exact ⟨by simp, Hg.out⟩
  · have b1 : (x == y) = false := by simp; omega
    have b2 : decide (x < y) = false := by simp; omega
    have b3 : decide (y < x) = true := by simp [hc]
    rw [b1] at a1
    rw [b2] at a2
    rw [b3] at a3
    go_enter Try.func23, Try.ntmps23
    go_wp2_with fail
    refine (a1.out _).mono ?_
    rintro e w1 ⟨rfl, h1⟩
    go_wp2_with fail
    refine (a2.out _).mono ?_
    rintro e w2 ⟨rfl, h2⟩
    go_wp2_with fail
    refine (a3.out _).mono ?_
    rintro e w3 ⟨rfl, h3⟩
    have Hg := hid (gb_trans (gb_trans h1 h2) h3)
    clear h1 h2 h3 a1 a2 a3
    go_wp2_with fail
    refine (F.out _ _).mono ?_
    rintro e w4 ⟨rfl, hw⟩
    subst hw
    go_wp2_with fail
    refine (F.out _ _).mono ?_
    rintro e w4 ⟨rfl, hw⟩
    subst hw
    go_wp2_with fail
    refine (F.out _ _).mono ?_
    rintro e w4 ⟨rfl, hw⟩
    subst hw
    go_wp2_with fail
    go_ret
    exact ⟨by simp, Hg.out⟩
end Go.Proofs.Ytldongbimhngfaa
