/- The document's own reading: its functions' walks. -/
import Derived.Test.YtpamlgdopmjooaaGreatGRdb
import Derived.Test.YtpamlgdopmjooaaGreatNx
namespace Go.Proofs.YtpamlgdopmjooaaGreat
open Go.RowKit
set_option linter.unusedVariables false
set_option linter.unusedSimpArgs false

theorem ret_int' {k : IntKind} {a b : Int} (h : a = b) : Ending.returned (.int k a) = .returned (.int k b) := by rw [h]
def opn (e c : Int) : List UInt8 × Bool :=
  if c = 63 then ([67, 58, 120, 120, 120, 120, 80], e == 80)
  else if c = 46 then ([120, 120, 120, 120], e == 80)
  else if c = 84 then ([], e == 67)
  else if c = 33 then ([67], e == 67)
  else if c = 38 then ([67, 67], e == 67)
  else if c = 124 then ([67, 67], e == 67)
  else if c = 110 then ([114, 120, 120, 120, 120], e == 67)
  else if c = 104 then ([114, 120, 120, 120, 120], e == 67)
  else if c = 97 then ([68, 82], e == 67)
  else ([], false)

set_option maxRecDepth 100000 in
set_option maxHeartbeats 2000000 in
theorem opened_any (w : World) (e c : Int) :
    Calls Tryz.prog 58 #[.int .u8 e, .int .u8 c] w fun r w' => r = .returned (.tuple #[.string ⟨(opn e c).1.toArray⟩, .bool (opn e c).2]) ∧ w' = w := by
  by_cases q0 : c = 63
  · have hv : Hid (opn e c = ([67, 58, 120, 120, 120, 120, 80], e == 80)) := by unfold Hid opn; rw [if_pos q0]
    subst q0
    go_enter Tryz.func58, Tryz.ntmps58
    go_wp2
    go_ret2
    rw [hv.out]
    exact ⟨rfl, rfl⟩
  have p0 : (c == 63) = false := by simp [q0]
  by_cases q1 : c = 46
  · have hv : Hid (opn e c = ([120, 120, 120, 120], e == 80)) := by unfold Hid opn; rw [if_neg q0, if_pos q1]
    subst q1
    go_enter Tryz.func58, Tryz.ntmps58
    go_wp2
    go_ret2
    rw [hv.out]
    exact ⟨rfl, rfl⟩
  have p1 : (c == 46) = false := by simp [q1]
  by_cases q2 : c = 84
  · have hv : Hid (opn e c = ([], e == 67)) := by unfold Hid opn; rw [if_neg q0, if_neg q1, if_pos q2]
    subst q2
    go_enter Tryz.func58, Tryz.ntmps58
    go_wp2
    go_ret2
    rw [hv.out]
    exact ⟨rfl, rfl⟩
  have p2 : (c == 84) = false := by simp [q2]
  by_cases q3 : c = 33
  · have hv : Hid (opn e c = ([67], e == 67)) := by unfold Hid opn; rw [if_neg q0, if_neg q1, if_neg q2, if_pos q3]
    subst q3
    go_enter Tryz.func58, Tryz.ntmps58
    go_wp2
    go_ret2
    rw [hv.out]
    exact ⟨rfl, rfl⟩
  have p3 : (c == 33) = false := by simp [q3]
  by_cases q4 : c = 38
  · have hv : Hid (opn e c = ([67, 67], e == 67)) := by unfold Hid opn; rw [if_neg q0, if_neg q1, if_neg q2, if_neg q3, if_pos q4]
    subst q4
    go_enter Tryz.func58, Tryz.ntmps58
    go_wp2
    go_ret2
    rw [hv.out]
    exact ⟨rfl, rfl⟩
  have p4 : (c == 38) = false := by simp [q4]
  by_cases q5 : c = 124
  · have hv : Hid (opn e c = ([67, 67], e == 67)) := by unfold Hid opn; rw [if_neg q0, if_neg q1, if_neg q2, if_neg q3, if_neg q4, if_pos q5]
    subst q5
    go_enter Tryz.func58, Tryz.ntmps58
    go_wp2
    go_ret2
    rw [hv.out]
    exact ⟨rfl, rfl⟩
  have p5 : (c == 124) = false := by simp [q5]
  by_cases q6 : c = 110
  · have hv : Hid (opn e c = ([114, 120, 120, 120, 120], e == 67)) := by unfold Hid opn; rw [if_neg q0, if_neg q1, if_neg q2, if_neg q3, if_neg q4, if_neg q5, if_pos q6]
    subst q6
    go_enter Tryz.func58, Tryz.ntmps58
    go_wp2
    go_ret2
    rw [hv.out]
    exact ⟨rfl, rfl⟩
  have p6 : (c == 110) = false := by simp [q6]
  by_cases q7 : c = 104
  · have hv : Hid (opn e c = ([114, 120, 120, 120, 120], e == 67)) := by unfold Hid opn; rw [if_neg q0, if_neg q1, if_neg q2, if_neg q3, if_neg q4, if_neg q5, if_neg q6, if_pos q7]
    subst q7
    go_enter Tryz.func58, Tryz.ntmps58
    go_wp2
    go_ret2
    rw [hv.out]
    exact ⟨rfl, rfl⟩
  have p7 : (c == 104) = false := by simp [q7]
  by_cases q8 : c = 97
  · have hv : Hid (opn e c = ([68, 82], e == 67)) := by unfold Hid opn; rw [if_neg q0, if_neg q1, if_neg q2, if_neg q3, if_neg q4, if_neg q5, if_neg q6, if_neg q7, if_pos q8]
    subst q8
    go_enter Tryz.func58, Tryz.ntmps58
    go_wp2
    go_ret2
    rw [hv.out]
    exact ⟨rfl, rfl⟩
  have p8 : (c == 97) = false := by simp [q8]
  have hv : Hid (opn e c = ([], false)) := by unfold Hid opn; rw [if_neg q0, if_neg q1, if_neg q2, if_neg q3, if_neg q4, if_neg q5, if_neg q6, if_neg q7, if_neg q8]
  clear q0 q1 q2 q3 q4 q5 q6 q7 q8
  go_enter Tryz.func58, Tryz.ntmps58
  go_wp2
  go_ret2
  rw [hv.out]
  exact ⟨rfl, rfl⟩

def hexD : List UInt8 := [48, 49, 50, 51, 52, 53, 54, 55, 56, 57, 97, 98, 99, 100, 101, 102]
/-- the value of a digit; -1: it is none -/
def hexV (c : Int) : Int := if 48 ≤ c ∧ c ≤ 57 then c - 48 else if 97 ≤ c ∧ c ≤ 102 then c - 87 else -1

theorem hex_get (k : Nat) (hk : k < 16) (h : k < ({ data := #[48, 49, 50, 51, 52, 53, 54, 55, 56, 57, 97, 98, 99, 100, 101, 102] } : ByteArray).size) :
    (({ data := #[48, 49, 50, 51, 52, 53, 54, 55, 56, 57, 97, 98, 99, 100, 101, 102] } : ByteArray)[k]'h) = hexD.getD k 0 := by
  have : k = 0 ∨ k = 1 ∨ k = 2 ∨ k = 3 ∨ k = 4 ∨ k = 5 ∨ k = 6 ∨ k = 7 ∨ k = 8 ∨ k = 9 ∨ k = 10 ∨ k = 11 ∨ k = 12 ∨ k = 13 ∨ k = 14 ∨ k = 15 := by omega
  rcases this with rfl | rfl | rfl | rfl | rfl | rfl | rfl | rfl | rfl | rfl | rfl | rfl | rfl | rfl | rfl | rfl <;> rfl
theorem hex_at (k : Nat) (hk : k < 16) : ((hexD.getD k 0).toNat : Int) = if k < 10 then (k : Int) + 48 else (k : Int) + 87 := by
  have : k = 0 ∨ k = 1 ∨ k = 2 ∨ k = 3 ∨ k = 4 ∨ k = 5 ∨ k = 6 ∨ k = 7 ∨ k = 8 ∨ k = 9 ∨ k = 10 ∨ k = 11 ∨ k = 12 ∨ k = 13 ∨ k = 14 ∨ k = 15 := by omega
  rcases this with rfl | rfl | rfl | rfl | rfl | rfl | rfl | rfl | rfl | rfl | rfl | rfl | rfl | rfl | rfl | rfl <;> rfl
theorem hexV_hit {k : Nat} {c : Int} (hk : k < 16) (h : ((hexD.getD k 0).toNat : Int) = c) : hexV c = k := by
  rw [hex_at k hk] at h
  unfold hexV
  split at h
  · rw [if_pos (by omega)]; omega
  · rw [if_neg (by omega), if_pos (by omega)]; omega
theorem hexV_miss {c : Int} (h : ∀ j, j < 16 → ((hexD.getD j 0).toNat : Int) ≠ c) : hexV c = -1 := by
  unfold hexV
  by_cases h1 : 48 ≤ c ∧ c ≤ 57
  · exfalso
    have := h (c - 48).toNat (by omega)
    rw [hex_at _ (by omega), if_pos (by omega)] at this
    omega
  · by_cases h2 : 97 ≤ c ∧ c ≤ 102
    · exfalso
      have := h (c - 87).toNat (by omega)
      rw [hex_at _ (by omega), if_neg (by omega)] at this
      omega
    · rw [if_neg h1, if_neg h2]

set_option maxRecDepth 100000 in
set_option maxHeartbeats 1000000 in
theorem refDigit_any (w : World) (c : Int) :
    Calls Tryz.prog 59 #[.int .u8 c] w fun r w' => r = .returned (.int .i64 (hexV c)) ∧ w' = w := by
  go_enter Tryz.func59, Tryz.ntmps59
  go_wp2
  go_loop [4] (fun i => ∃ k : Nat, k ≤ 16 ∧ i = .int .i64 k ∧ Hid (∀ j, j < k → ((hexD.getD j 0).toNat : Int) ≠ c)) (fun i => 16 - (intOf i).toNat)
  case atStart => exact ⟨0, by omega, rfl, fun j hj => by omega⟩
  case round =>
    obtain ⟨k, hk, rfl, Ha⟩ := hrel
    by_cases hlt : k < 16
    · have hsz : k < ({ data := #[48, 49, 50, 51, 52, 53, 54, 55, 56, 57, 97, 98, 99, 100, 101, 102] } : ByteArray).size := hlt
      have hge := hid (hex_get k hlt hsz)
      go_wp2
      · have hc : (((({ data := #[48, 49, 50, 51, 52, 53, 54, 55, 56, 57, 97, 98, 99, 100, 101, 102] } : ByteArray)[k]'hsz).toNat : Int) == c) = true := by assumption
        go_ret
        refine ⟨ret_int' (hexV_hit hlt ?_).symm, rfl⟩
        rw [hge.out] at hc
        simpa using hc
      · have hc : (((({ data := #[48, 49, 50, 51, 52, 53, 54, 55, 56, 57, 97, 98, 99, 100, 101, 102] } : ByteArray)[k]'hsz).toNat : Int) == c) = false := by assumption
        refine ⟨⟨k + 1, by omega, by go_num, ?_⟩, by simp [intOf]; omega⟩
        intro j hj
        by_cases hjk : j = k
        · subst hjk
          rw [hge.out] at hc
          simpa using hc
        · exact Ha.out j (by omega)
    · have hk16 : k = 16 := by omega
      subst hk16
      have hm := hid (hexV_miss Ha.out)
      go_wp2
      go_ret
      exact ⟨ret_int' hm.out.symm, rfl⟩

theorem nxt_P (e : UInt8) (he : e = 80 ∨ e = 67) (K : List UInt8) (c : Int) : Sv.nxt (e :: K) c = if (opn e.toNat c).2 = true then some ((opn e.toNat c).1 ++ K) else none := by
  unfold opn
  by_cases q0 : c = 63
  · subst q0; rcases he with rfl | rfl <;> simp [Sv.nxt]
  by_cases q1 : c = 46
  · subst q1; rcases he with rfl | rfl <;> simp [Sv.nxt]
  by_cases q2 : c = 84
  · subst q2; rcases he with rfl | rfl <;> simp [Sv.nxt]
  by_cases q3 : c = 33
  · subst q3; rcases he with rfl | rfl <;> simp [Sv.nxt]
  by_cases q4 : c = 38
  · subst q4; rcases he with rfl | rfl <;> simp [Sv.nxt]
  by_cases q5 : c = 124
  · subst q5; rcases he with rfl | rfl <;> simp [Sv.nxt]
  by_cases q6 : c = 110
  · subst q6; rcases he with rfl | rfl <;> simp [Sv.nxt]
  by_cases q7 : c = 104
  · subst q7; rcases he with rfl | rfl <;> simp [Sv.nxt]
  by_cases q8 : c = 97
  · subst q8; rcases he with rfl | rfl <;> simp [Sv.nxt]
  rcases he with rfl | rfl <;> simp [Sv.nxt, q0, q1, q2, q3, q4, q5, q6, q7, q8]

/-- what next answers -/
def NextOk (form : List UInt8) (c : Int) (m : ByteArray) (ok : Bool) : Prop := (ok = true ∧ Sv.nxt form c = some m.data.toList) ∨ (ok = false ∧ Sv.nxt form c = none)

def isIdx (c : Int) : Bool := decide (48 ≤ c) && decide (c ≤ 51)
theorem opn_size (e c : Int) : (⟨(opn e c).1.toArray⟩ : ByteArray).size ≤ 7 := by
  unfold opn; repeat' split
  all_goals simp [ByteArray.size]
set_option maxRecDepth 100000 in
set_option maxHeartbeats 2000000 in
theorem next_80 (w : World) (fm R : ByteArray) (c E : Int) (h0 : 0 ≤ c) (h1 : c < 256) (hsz : 0 < fm.size) (hb : fm.size ≤ 100001) (r0 : ((fm[0]'hsz).toNat : Int) = E) (hx : fm.extract 1 fm.size = R) (hR : R.size ≤ 100000) (hemp : fm.toList.isEmpty = false) (e0 : E = 80) :
    Calls Tryz.prog 42 #[.string fm, .int .u8 c] w fun r w' => r = .returned (.tuple #[.string ((⟨(opn E c).1.toArray⟩ : ByteArray) ++ R), .bool ((opn E c).2)]) ∧ w' = w := by
  subst e0
  have ho := opened_any w 80 c
  have hM : (⟨(opn 80 c).1.toArray⟩ : ByteArray).size ≤ 7 := opn_size 80 c
  generalize (⟨(opn 80 c).1.toArray⟩ : ByteArray) = M at *
  generalize (opn 80 c).2 = ok at *
  go_enter Tryz.func42, Tryz.ntmps42
  go_wp2_with fail
  refine ho.mono ?_
  clear ho
  rintro r w1 ⟨rfl, hw⟩
  subst hw
  go_wp2_with fail
  go_ret2
  exact ⟨rfl, rfl⟩

set_option maxRecDepth 100000 in
set_option maxHeartbeats 2000000 in
theorem next_67 (w : World) (fm R : ByteArray) (c E : Int) (h0 : 0 ≤ c) (h1 : c < 256) (hsz : 0 < fm.size) (hb : fm.size ≤ 100001) (r0 : ((fm[0]'hsz).toNat : Int) = E) (hx : fm.extract 1 fm.size = R) (hR : R.size ≤ 100000) (hemp : fm.toList.isEmpty = false) (e0 : E = 67) :
    Calls Tryz.prog 42 #[.string fm, .int .u8 c] w fun r w' => r = .returned (.tuple #[.string ((⟨(opn E c).1.toArray⟩ : ByteArray) ++ R), .bool ((opn E c).2)]) ∧ w' = w := by
  subst e0
  have ho := opened_any w 67 c
  have hM : (⟨(opn 67 c).1.toArray⟩ : ByteArray).size ≤ 7 := opn_size 67 c
  generalize (⟨(opn 67 c).1.toArray⟩ : ByteArray) = M at *
  generalize (opn 67 c).2 = ok at *
  go_enter Tryz.func42, Tryz.ntmps42
  go_wp2_with fail
  refine ho.mono ?_
  clear ho
  rintro r w1 ⟨rfl, hw⟩
  subst hw
  go_wp2_with fail
  go_ret2
  exact ⟨rfl, rfl⟩

set_option maxRecDepth 100000 in
set_option maxHeartbeats 2000000 in
theorem next_82a (w : World) (fm R : ByteArray) (c E : Int) (h0 : 0 ≤ c) (h1 : c < 256) (hsz : 0 < fm.size) (hb : fm.size ≤ 100001) (r0 : ((fm[0]'hsz).toNat : Int) = E) (hx : fm.extract 1 fm.size = R) (hR : R.size ≤ 100000) (hemp : fm.toList.isEmpty = false) (e0 : E = 82) (c0 : c = 38) :
    Calls Tryz.prog 42 #[.string fm, .int .u8 c] w fun r w' => r = .returned (.tuple #[.string ((⟨#[120, 120, 120, 120, 120, 120, 120, 120, 61, 120, 120, 120, 120, 120, 120, 120, 120]⟩ : ByteArray) ++ R), .bool (true)]) ∧ w' = w := by
  subst e0
  subst c0
  go_enter Tryz.func42, Tryz.ntmps42
  go_wp2_with fail
  go_ret2
  exact ⟨rfl, rfl⟩

set_option maxRecDepth 100000 in
set_option maxHeartbeats 2000000 in
theorem next_82b (w : World) (fm R : ByteArray) (c E : Int) (h0 : 0 ≤ c) (h1 : c < 256) (hsz : 0 < fm.size) (hb : fm.size ≤ 100001) (r0 : ((fm[0]'hsz).toNat : Int) = E) (hx : fm.extract 1 fm.size = R) (hR : R.size ≤ 100000) (hemp : fm.toList.isEmpty = false) (e0 : E = 82) (c0 : c ≠ 38) :
    Calls Tryz.prog 42 #[.string fm, .int .u8 c] w fun r w' => r = .returned (.tuple #[.string ((⟨#[120, 120, 120, 120, 120, 120, 120, 120]⟩ : ByteArray) ++ R), .bool (Sv.isRel c)]) ∧ w' = w := by
  subst e0
  have c0' : (c == 38) = false := by simp [c0]
  clear c0
  by_cases q0 : c = 61
  · subst q0
    clear c0'
    go_enter Tryz.func42, Tryz.ntmps42
    go_wp2_with fail
    go_ret2
    exact ⟨rfl, rfl⟩
  have p0 : (c == 61) = false := by simp [q0]
  by_cases q1 : c = 60
  · subst q1
    clear c0'
    go_enter Tryz.func42, Tryz.ntmps42
    go_wp2_with fail
    go_ret2
    exact ⟨rfl, rfl⟩
  have p1 : (c == 60) = false := by simp [q1]
  by_cases q2 : c = 62
  · subst q2
    clear c0'
    go_enter Tryz.func42, Tryz.ntmps42
    go_wp2_with fail
    go_ret2
    exact ⟨rfl, rfl⟩
  have p2 : (c == 62) = false := by simp [q2]
  have hv : Hid (Sv.isRel c = false) := by unfold Hid Sv.isRel; rw [p0, p1, p2]; rfl
  clear q0 q1 q2
  go_enter Tryz.func42, Tryz.ntmps42
  go_wp2_with fail
  go_ret2
  rw [hv.out]
  exact ⟨rfl, rfl⟩

set_option maxRecDepth 100000 in
set_option maxHeartbeats 2000000 in
theorem next_114 (w : World) (fm R : ByteArray) (c E : Int) (h0 : 0 ≤ c) (h1 : c < 256) (hsz : 0 < fm.size) (hb : fm.size ≤ 100001) (r0 : ((fm[0]'hsz).toNat : Int) = E) (hx : fm.extract 1 fm.size = R) (hR : R.size ≤ 100000) (hemp : fm.toList.isEmpty = false) (e0 : E = 114) :
    Calls Tryz.prog 42 #[.string fm, .int .u8 c] w fun r w' => r = .returned (.tuple #[.string (R), .bool (Sv.isRel c)]) ∧ w' = w := by
  subst e0
  by_cases q0 : c = 61
  · subst q0
    go_enter Tryz.func42, Tryz.ntmps42
    go_wp2_with fail
    go_ret2
    exact ⟨rfl, rfl⟩
  have p0 : (c == 61) = false := by simp [q0]
  by_cases q1 : c = 60
  · subst q1
    go_enter Tryz.func42, Tryz.ntmps42
    go_wp2_with fail
    go_ret2
    exact ⟨rfl, rfl⟩
  have p1 : (c == 60) = false := by simp [q1]
  by_cases q2 : c = 62
  · subst q2
    go_enter Tryz.func42, Tryz.ntmps42
    go_wp2_with fail
    go_ret2
    exact ⟨rfl, rfl⟩
  have p2 : (c == 62) = false := by simp [q2]
  have hv : Hid (Sv.isRel c = false) := by unfold Hid Sv.isRel; rw [p0, p1, p2]; rfl
  clear q0 q1 q2
  go_enter Tryz.func42, Tryz.ntmps42
  go_wp2_with fail
  go_ret2
  rw [hv.out]
  exact ⟨rfl, rfl⟩

set_option maxRecDepth 100000 in
set_option maxHeartbeats 2000000 in
theorem next_68 (w : World) (fm R : ByteArray) (c E : Int) (h0 : 0 ≤ c) (h1 : c < 256) (hsz : 0 < fm.size) (hb : fm.size ≤ 100001) (r0 : ((fm[0]'hsz).toNat : Int) = E) (hx : fm.extract 1 fm.size = R) (hR : R.size ≤ 100000) (hemp : fm.toList.isEmpty = false) (e0 : E = 68) :
    Calls Tryz.prog 42 #[.string fm, .int .u8 c] w fun r w' => r = .returned (.tuple #[.string (R), .bool (isIdx c)]) ∧ w' = w := by
  subst e0
  by_cases q : 48 ≤ c
  · have hd : decide (48 ≤ c) = true := by simp [q]
    have hv : Hid (isIdx c = decide (c ≤ 51)) := by unfold Hid isIdx; rw [hd]; rfl
    go_enter Tryz.func42, Tryz.ntmps42
    go_wp2_with fail
    go_ret2
    rw [hv.out]
    exact ⟨rfl, rfl⟩
  · have hd : decide (48 ≤ c) = false := by simp [q]
    have hv : Hid (isIdx c = false) := by unfold Hid isIdx; rw [hd]; rfl
    go_enter Tryz.func42, Tryz.ntmps42
    go_wp2_with fail
    go_ret2
    rw [hv.out]
    exact ⟨rfl, rfl⟩

set_option maxRecDepth 100000 in
set_option maxHeartbeats 2000000 in
theorem next_120 (w : World) (fm R : ByteArray) (c E : Int) (h0 : 0 ≤ c) (h1 : c < 256) (hsz : 0 < fm.size) (hb : fm.size ≤ 100001) (r0 : ((fm[0]'hsz).toNat : Int) = E) (hx : fm.extract 1 fm.size = R) (hR : R.size ≤ 100000) (hemp : fm.toList.isEmpty = false) (e0 : E = 120) :
    Calls Tryz.prog 42 #[.string fm, .int .u8 c] w fun r w' => r = .returned (.tuple #[.string (R), .bool (decide (0 ≤ hexV c))]) ∧ w' = w := by
  subst e0
  have hd := refDigit_any w c
  generalize hexV c = d at *
  go_enter Tryz.func42, Tryz.ntmps42
  go_wp2_with fail
  refine hd.mono ?_
  clear hd
  rintro r w1 ⟨rfl, hw⟩
  subst hw
  go_wp2_with fail
  go_ret2
  exact ⟨rfl, rfl⟩

set_option maxRecDepth 100000 in
set_option maxHeartbeats 2000000 in
theorem next_lit (w : World) (fm R : ByteArray) (c E : Int) (h0 : 0 ≤ c) (h1 : c < 256) (hsz : 0 < fm.size) (hb : fm.size ≤ 100001) (r0 : ((fm[0]'hsz).toNat : Int) = E) (hx : fm.extract 1 fm.size = R) (hR : R.size ≤ 100000) (hemp : fm.toList.isEmpty = false) (e0 : E ≠ 80 ∧ E ≠ 67 ∧ E ≠ 82 ∧ E ≠ 114 ∧ E ≠ 68 ∧ E ≠ 120) :
    Calls Tryz.prog 42 #[.string fm, .int .u8 c] w fun r w' => r = .returned (.tuple #[.string (R), .bool (c == E)]) ∧ w' = w := by
  have b0 : (E == 80) = false := by simp [e0.1]
  have b1 : (E == 67) = false := by simp [e0.2.1]
  have b2 : (E == 82) = false := by simp [e0.2.2.1]
  have b3 : (E == 114) = false := by simp [e0.2.2.2.1]
  have b4 : (E == 68) = false := by simp [e0.2.2.2.2.1]
  have b5 : (E == 120) = false := by simp [e0.2.2.2.2.2]
  clear e0
  go_enter Tryz.func42, Tryz.ntmps42
  go_wp2_with fail
  go_ret2
  exact ⟨rfl, rfl⟩

end Go.Proofs.YtpamlgdopmjooaaGreat
