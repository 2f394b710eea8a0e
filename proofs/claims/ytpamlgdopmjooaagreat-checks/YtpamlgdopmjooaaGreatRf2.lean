import Derived.Test.YtpamlgdopmjooaaGreatRf1
import Derived.Test.YtpamlgdopmjooaaGreatAuto
namespace Go.Proofs.YtpamlgdopmjooaaGreat
open Go.RowKit
set_option linter.unusedVariables false
set_option linter.unusedSimpArgs false

theorem cat_toList (a b : ByteArray) : (a ++ b).data.toList = a.data.toList ++ b.data.toList := by simp
theorem cat_size (a b : ByteArray) : (a ++ b).size = a.size + b.size := by simp

theorem isHex_hexV (c : Int) : Sv.isHex c = decide (0 ≤ hexV c) := by
  unfold Sv.isHex hexV
  by_cases h1 : 48 ≤ c ∧ c ≤ 57
  · have : 0 ≤ c - 48 := by omega
    simp [h1, this]
  · by_cases h2 : 97 ≤ c ∧ c ≤ 102
    · have : 0 ≤ c - 87 := by omega
      simp [h1, h2]; omega
    · rw [if_neg h1, if_neg h2]
      simp only [show ¬ ((0 : Int) ≤ -1) by omega, decide_false, Bool.or_eq_false_iff, Bool.and_eq_false_iff, decide_eq_false_iff_not]
      omega

theorem refNext_any (w : World) (fm : ByteArray) (c : Int) (h0 : 0 ≤ c) (h1 : c < 256) (hsz : 0 < fm.size) (hb : fm.size ≤ 100001) :
    Calls Tryz.prog 42 #[.string fm, .int .u8 c] w fun r w' => ∃ m ok, r = .returned (.tuple #[.string m, .bool ok]) ∧ NextOk fm.data.toList c m ok ∧ m.size ≤ fm.size + 16 ∧ w' = w := by
  obtain ⟨⟨l⟩⟩ := fm
  match l, hsz with
  | e :: K, hsz =>
  have hl : (ByteArray.mk (Array.mk (e :: K))).data.toList = e :: K := rfl
  rw [hl]
  have hx : (ByteArray.mk (Array.mk (e :: K))).extract 1 (ByteArray.mk (Array.mk (e :: K))).size = ⟨⟨K⟩⟩ := by
    apply ByteArray.ext; simp [ByteArray.size]
  have hs : (ByteArray.mk (Array.mk (e :: K))).size = K.length + 1 := by simp [ByteArray.size]
  have hR : (ByteArray.mk (Array.mk K)).size ≤ 100000 := by rw [hs] at hb; simp [ByteArray.size]; omega
  have hRs : (ByteArray.mk (Array.mk K)).size = K.length := by simp [ByteArray.size]
  have r0 : (((ByteArray.mk (Array.mk (e :: K)))[0]'hsz).toNat : Int) = (e.toNat : Int) := rfl
  have hemp : (ByteArray.mk (Array.mk (e :: K))).toList.isEmpty = false := by
    have : (ByteArray.mk (Array.mk (e :: K))).toList = e :: K := ByteArray.toList_mk (e :: K)
    rw [this]; rfl
  have fin : ∀ (m : ByteArray) (ok : Bool), NextOk (e :: K) c m ok → m.size ≤ K.length + 17 → (∃ m' ok', Ending.returned (.tuple #[.string m, .bool ok]) = Ending.returned (.tuple #[.string m', .bool ok']) ∧ NextOk (e :: K) c m' ok' ∧ m'.size ≤ (ByteArray.mk (Array.mk (e :: K))).size + 16 ∧ w = w) :=
    fun m ok h1 h2 => ⟨m, ok, rfl, h1, by rw [hs]; omega, rfl⟩
  have ok_of : ∀ (m : ByteArray) (b : Bool) (L : List UInt8), m.data.toList = L → Sv.nxt (e :: K) c = (if b = true then some L else none) → NextOk (e :: K) c m b := by
    intro m b L hm hn
    cases b
    · exact Or.inr ⟨rfl, by rw [hn]; rfl⟩
    · exact Or.inl ⟨rfl, by rw [hn, hm]; rfl⟩
  by_cases q0 : e = 80
  · refine (next_80 w _ _ c _ h0 h1 hsz hb r0 hx hR hemp (by rw [q0]; rfl)).mono ?_
    rintro r w1 ⟨rfl, rfl⟩
    refine fin _ _ (ok_of _ _ _ (cat_toList _ _) (nxt_P e (Or.inl q0) K c)) ?_
    have := opn_size e.toNat c
    rw [cat_size, hRs]; omega
  by_cases q1 : e = 67
  · refine (next_67 w _ _ c _ h0 h1 hsz hb r0 hx hR hemp (by rw [q1]; rfl)).mono ?_
    rintro r w1 ⟨rfl, rfl⟩
    refine fin _ _ (ok_of _ _ _ (cat_toList _ _) (nxt_P e (Or.inr q1) K c)) ?_
    have := opn_size e.toNat c
    rw [cat_size, hRs]; omega
  by_cases q2 : e = 82
  · by_cases c0 : c = 38
    · refine (next_82a w _ _ c _ h0 h1 hsz hb r0 hx hR hemp (by rw [q2]; rfl) c0).mono ?_
      rintro r w1 ⟨rfl, rfl⟩
      refine fin _ _ (ok_of _ _ _ (cat_toList _ _) ?_) ?_
      · subst q2; subst c0; simp [Sv.nxt]
      · rw [cat_size, hRs]; simp [ByteArray.size]; omega
    · refine (next_82b w _ _ c _ h0 h1 hsz hb r0 hx hR hemp (by rw [q2]; rfl) c0).mono ?_
      rintro r w1 ⟨rfl, rfl⟩
      refine fin _ _ (ok_of _ _ _ (cat_toList _ _) ?_) ?_
      · subst q2; simp [Sv.nxt, c0]
      · rw [cat_size, hRs]; simp [ByteArray.size]; omega
  by_cases q3 : e = 114
  · refine (next_114 w _ _ c _ h0 h1 hsz hb r0 hx hR hemp (by rw [q3]; rfl)).mono ?_
    rintro r w1 ⟨rfl, rfl⟩
    refine fin _ _ (ok_of _ _ K rfl ?_) (by rw [hRs]; omega)
    subst q3; simp [Sv.nxt]
  by_cases q4 : e = 68
  · refine (next_68 w _ _ c _ h0 h1 hsz hb r0 hx hR hemp (by rw [q4]; rfl)).mono ?_
    rintro r w1 ⟨rfl, rfl⟩
    refine fin _ _ (ok_of _ _ K rfl ?_) (by rw [hRs]; omega)
    subst q4; simp [Sv.nxt, isIdx]
  by_cases q5 : e = 120
  · refine (next_120 w _ _ c _ h0 h1 hsz hb r0 hx hR hemp (by rw [q5]; rfl)).mono ?_
    rintro r w1 ⟨rfl, rfl⟩
    refine fin _ _ (ok_of _ _ K rfl ?_) (by rw [hRs]; omega)
    subst q5; rw [← isHex_hexV]; simp [Sv.nxt]
  have ne : ∀ n : UInt8, e ≠ n → (e.toNat : Int) ≠ (n.toNat : Int) := fun n h he => h (UInt8.toNat_inj.1 (by omega))
  refine (next_lit w _ _ c _ h0 h1 hsz hb r0 hx hR hemp ⟨ne 80 q0, ne 67 q1, ne 82 q2, ne 114 q3, ne 68 q4, ne 120 q5⟩).mono ?_
  rintro r w1 ⟨rfl, rfl⟩
  refine fin _ _ (ok_of _ _ K rfl ?_) (by rw [hRs]; omega)
  simp [Sv.nxt, q0, q1, q2, q3, q4, q5]

theorem refNext_nil (w : World) (c : Int) :
    Calls Tryz.prog 42 #[.string ⟨#[]⟩, .int .u8 c] w fun r w' => r = .returned (.tuple #[.string ⟨#[]⟩, .bool false]) ∧ w' = w := by
  go_enter Tryz.func42, Tryz.ntmps42
  go_wp2_with fail
  go_ret2
  exact ⟨rfl, rfl⟩

/-- what the document's Check answers -/
def refCheck (t : ByteArray) : Int × Int := if 600 < t.size then (1, 0) else Sv.run t 0 [80]
theorem refCheck_eq (t : ByteArray) : refCheck t = Sv.check t := by
  unfold refCheck
  by_cases h : 600 < t.size
  · unfold Sv.check; rw [if_pos h, if_pos h]
  · rw [if_neg h, Sv.check_run t (by omega)]

set_option maxRecDepth 100000 in
set_option maxHeartbeats 1000000 in
theorem refCheck_any (w : World) (t : ByteArray) (ht : t.size ≤ maxLen) :
    Calls Tryz.prog 20 #[.string t] w fun r w' => r = .returned (.tuple #[.int .i64 (refCheck t).1, .int .i64 (refCheck t).2]) ∧ w' = w := by
  unfold maxLen at ht
  by_cases h : 600 < t.size
  · have hv : Hid (refCheck t = (1, 0)) := by unfold Hid refCheck; rw [if_pos h]
    go_enter Tryz.func20, Tryz.ntmps20
    go_wp2_with fail
    go_ret2
    rw [hv.out]
    exact ⟨rfl, rfl⟩
  · have hv : Hid (refCheck t = Sv.run t 0 [80]) := by unfold Hid refCheck; rw [if_neg h]
    have hs : t.size ≤ 600 := by omega
    clear h ht
    go_enter Tryz.func20, Tryz.ntmps20
    go_wp2_with fail
    go_loopw [4, 5] (fun f i wr => ∃ (k : Nat) (fm : ByteArray), k ≤ t.size ∧ i = .int .i64 k ∧ f = .string fm ∧ wr = w ∧ fm.size ≤ 1 + 16 * k ∧ Hid (Sv.run t 0 [80] = Sv.run t k fm.data.toList)) (fun _ i _ => t.size - (intOf i).toNat)
    case atStart => exact ⟨0, _, Nat.zero_le _, rfl, rfl, rfl, by simp [ByteArray.size], rfl⟩
    case round =>
      obtain ⟨k, fm, hk, rfl, rfl, hw, hfs, hR⟩ := hrel
      subst hw
      by_cases hlt : k < t.size
      · by_cases hz : 0 < fm.size
        · have hb0 : (0 : Int) ≤ (t[k].toNat : Int) := by omega
          have hb1 : (t[k].toNat : Int) < 256 := by have := t[k].toNat_lt; omega
          have hN := refNext_any wr fm (t[k].toNat : Int) hb0 hb1 hz (by omega)
          have hB : Hid (Sv.byteAt t k = (t[k].toNat : Int)) := byteAt_in hlt
          go_wp2_with fail
          refine hN.mono ?_
          rintro e w1 ⟨m, ok, rfl, hok, hms, rfl⟩
          clear hN
          rcases hok with ⟨rfl, hn⟩ | ⟨rfl, hn⟩
          · have hst : Hid (Sv.run t 0 [80] = Sv.run t (k + 1) m.data.toList) := by
              unfold Hid
              rw [hR.out]
              obtain ⟨⟨l⟩⟩ := fm
              match l, hz with
              | e :: K, _ =>
                show Sv.run t k (e :: K) = _
                rw [Sv.run_step t k hk, hB.out]
                have hn' : Sv.nxt (e :: K) (t[k].toNat : Int) = some m.data.toList := hn
                rw [hn']
            have Hn := hid hn
            clear hn
            go_wp2_with fail
            go_roundw
            case rel => exact ⟨k + 1, m, by omega, by go_num, rfl, by first | rfl | trivial, by omega, hst⟩
            case measure => simp [intOf]; omega
          · have hst : Hid (Sv.run t 0 [80] = (2, (k : Int))) := by
              unfold Hid
              rw [hR.out]
              obtain ⟨⟨l⟩⟩ := fm
              match l, hz with
              | e :: K, _ =>
                show Sv.run t k (e :: K) = _
                rw [Sv.run_step t k hk, hB.out]
                have hn' : Sv.nxt (e :: K) (t[k].toNat : Int) = none := hn
                rw [hn']
            have Hn := hid hn
            clear hn
            go_wp2_with fail
            go_ret2
            rw [hv.out, hst.out]
            exact ⟨rfl, rfl⟩
        · have he : fm = ⟨#[]⟩ := by
            obtain ⟨⟨l⟩⟩ := fm
            have hl : l = [] := List.eq_nil_of_length_eq_zero (by simp [ByteArray.size] at hz; simp [hz])
            rw [hl]
          subst he
          have hst : Hid (Sv.run t 0 [80] = (2, (k : Int))) := by
            unfold Hid; rw [hR.out]
            show Sv.run t k [] = _
            rw [Sv.run_nil t k hk, if_pos hlt]
          have hN := refNext_nil wr (t[k].toNat : Int)
          go_wp2_with fail
          refine hN.mono ?_
          rintro e w1 ⟨rfl, rfl⟩
          clear hN
          go_wp2_with fail
          go_ret2
          rw [hv.out, hst.out]
          exact ⟨rfl, rfl⟩
      · have hkl : k = t.size := by omega
        have hge : t.size ≤ k := by omega
        by_cases hz : 0 < fm.size
        · have hne : (fm.toList == (ByteArray.mk #[]).toList) = false := by
            obtain ⟨⟨l⟩⟩ := fm
            match l, hz with
            | e :: K, _ =>
              have h1 : (ByteArray.mk (Array.mk (e :: K))).toList = e :: K := ByteArray.toList_mk (e :: K)
              have h2 : (ByteArray.mk #[]).toList = [] := ByteArray.toList_mk []
              rw [h1, h2]; rfl
          have hne2 : fm.toList.isEmpty = false := by
            obtain ⟨⟨l⟩⟩ := fm
            match l, hz with
            | e :: K, _ =>
              have h1 : (ByteArray.mk (Array.mk (e :: K))).toList = e :: K := ByteArray.toList_mk (e :: K)
              rw [h1]; rfl
          have hst : Hid (Sv.run t 0 [80] = (2, (t.size : Int))) := by
            unfold Hid; rw [hR.out, hkl]
            obtain ⟨⟨l⟩⟩ := fm
            match l, hz with
            | e :: K, _ =>
              show Sv.run t t.size (e :: K) = _
              rw [Sv.run_step t t.size (Nat.le_refl _), Sv.byteAt_out (Nat.le_refl _), Sv.nxt_neg]
          clear hkl
          go_wp2_with fail
          go_ret2
          rw [hv.out, hst.out]
          exact ⟨rfl, rfl⟩
        · have he : fm = ⟨#[]⟩ := by
            obtain ⟨⟨l⟩⟩ := fm
            have hl : l = [] := List.eq_nil_of_length_eq_zero (by simp [ByteArray.size] at hz; simp [hz])
            rw [hl]
          subst he
          have hst : Hid (Sv.run t 0 [80] = (0, 0)) := by
            unfold Hid; rw [hR.out, hkl]
            show Sv.run t t.size [] = _
            rw [Sv.run_nil t t.size (Nat.le_refl _), if_neg (by omega)]
          clear hkl
          go_wp2_with fail
          go_ret2
          rw [hv.out, hst.out]
          exact ⟨rfl, rfl⟩
end Go.Proofs.YtpamlgdopmjooaaGreat
