import Derived.Test.YtldongbimhngfaaKp3
namespace Go.Proofs.Ytldongbimhngfaa
open Go.RowKit
set_option linter.unusedVariables false
set_option linter.unusedSimpArgs false

set_option maxRecDepth 100000 in
set_option maxHeartbeats 1000000 in
theorem piece_120 (w : World) (B mb : Nat) (la : Option Addr) (ll lc p : Nat) (t : ByteArray) (room : Nat) (z : Nat → Int)
    (hM : MkAt w mb la ll lc p t room) (hR : RawRow w B la ll z) (hB : B ≤ mb) (hll : ll ≤ maxLen) (ht : t.size ≤ 1000) (hr : room ≤ 1000) (hp : p ≤ ll) :
    Calls Try.prog 49 #[.pointer (some ⟨mb, 0, none⟩), .int .u8 120] w fun r w' => PieceEnd w mb la ll lc t room 120 r w' := by
  have hP1 := mpick_any w B mb la ll lc p t room z 65536 hM hR hB hll ht hr (by omega) (by omega) hp
  clear hM hR
  go_enter Try.func49, Try.ntmps49
  go_wp2_with fail
  refine hP1.mono ?_
  clear hP1
  rintro r w1 ⟨k, p', rfl, hk0, hk1, hmin, hp', hM1, hg1⟩
  have hX := fun w => hex_any w k hk0 hk1
  have hS : Hid (StepOk (decide (room < t.size)) 120 (hex4 k.toNat) []) := by
    unfold Hid StepOk; simp only [if_neg (by decide : ¬ (120 : UInt8) = 80), if_neg (by decide : ¬ (120 : UInt8) = 67), if_neg (by decide : ¬ (120 : UInt8) = 114), if_neg (by decide : ¬ (120 : UInt8) = 82), if_neg (by decide : ¬ (120 : UInt8) = 68), if_true]
    exact ⟨⟨k.toNat, by omega, rfl⟩, trivial⟩
  have HM := hid hM1
  have Hg := hid hg1
  clear hM1 hg1 hmin hk1
  generalize hex4 k.toNat = S at *
  go_wp2_with fail
  refine (hX _).mono ?_
  rintro r w2 ⟨rfl, hw⟩
  subst hw
  clear hX
  go_wp2_with fail
  go_ret2
  exact PieceEnd.mk ⟨S.toArray⟩ ⟨#[]⟩ p' (by simpa using hS.out) hp' HM.out Hg.out

set_option maxRecDepth 100000 in
set_option maxHeartbeats 1000000 in
theorem piece_58 (w : World) (B mb : Nat) (la : Option Addr) (ll lc p : Nat) (t : ByteArray) (room : Nat) (z : Nat → Int)
    (hM : MkAt w mb la ll lc p t room) (hR : RawRow w B la ll z) (hB : B ≤ mb) (hll : ll ≤ maxLen) (ht : t.size ≤ 1000) (hr : room ≤ 1000) (hp : p ≤ ll) :
    Calls Try.prog 49 #[.pointer (some ⟨mb, 0, none⟩), .int .u8 58] w fun r w' => PieceEnd w mb la ll lc t room 58 r w' := by
  have hmb := hM.lt
  have hne : w.heap.size ≠ mb := by omega
  have HM := hid hM
  clear hM hR
  have hc : (convert 62 9 (.slice (some ⟨w.heap.size, 0, none⟩) 1 1)).run Try.prog (w.alloc (.cells #[.int .u8 58] 5)) = .ok (.string ⟨#[58]⟩) (w.alloc (.cells #[.int .u8 58] 5)) := by
    have := run_convert_bytes_back (P := Try.prog) (w.alloc (.cells #[.int .u8 58] 5)) 62 9 5 ⟨w.heap.size, 0, none⟩ 1 [58] Try.underlying62 Try.underlying5 Try.underlying9 (by
      intro j hj
      have hj0 : j = 0 := by simp at hj; omega
      subst hj0
      simp [Addr.add])
    exact this
  go_enter Try.func49, Try.ntmps49
  go_wp2_with fail
  go_ret2
  exact PieceEnd.mk ⟨#[58]⟩ ⟨#[]⟩ p (by unfold StepOk; simp) hp (HM.out.alloc _) (gb_alloc (gb_refl _ _) _)

set_option maxRecDepth 100000 in
set_option maxHeartbeats 1000000 in
theorem piece_61 (w : World) (B mb : Nat) (la : Option Addr) (ll lc p : Nat) (t : ByteArray) (room : Nat) (z : Nat → Int)
    (hM : MkAt w mb la ll lc p t room) (hR : RawRow w B la ll z) (hB : B ≤ mb) (hll : ll ≤ maxLen) (ht : t.size ≤ 1000) (hr : room ≤ 1000) (hp : p ≤ ll) :
    Calls Try.prog 49 #[.pointer (some ⟨mb, 0, none⟩), .int .u8 61] w fun r w' => PieceEnd w mb la ll lc t room 61 r w' := by
  have hmb := hM.lt
  have hne : w.heap.size ≠ mb := by omega
  have HM := hid hM
  clear hM hR
  have hc : (convert 62 9 (.slice (some ⟨w.heap.size, 0, none⟩) 1 1)).run Try.prog (w.alloc (.cells #[.int .u8 61] 5)) = .ok (.string ⟨#[61]⟩) (w.alloc (.cells #[.int .u8 61] 5)) := by
    have := run_convert_bytes_back (P := Try.prog) (w.alloc (.cells #[.int .u8 61] 5)) 62 9 5 ⟨w.heap.size, 0, none⟩ 1 [61] Try.underlying62 Try.underlying5 Try.underlying9 (by
      intro j hj
      have hj0 : j = 0 := by simp at hj; omega
      subst hj0
      simp [Addr.add])
    exact this
  go_enter Try.func49, Try.ntmps49
  go_wp2_with fail
  go_ret2
  exact PieceEnd.mk ⟨#[61]⟩ ⟨#[]⟩ p (by unfold StepOk; simp) hp (HM.out.alloc _) (gb_alloc (gb_refl _ _) _)

/-- the signs that a form is made of -/
def Sign (e : UInt8) : Prop := e = 80 ∨ e = 67 ∨ e = 114 ∨ e = 82 ∨ e = 68 ∨ e = 120 ∨ e = 58 ∨ e = 61
theorem piece_any (e : UInt8) (he : Sign e) (w : World) (B mb : Nat) (la : Option Addr) (ll lc p : Nat) (t : ByteArray) (room : Nat) (z : Nat → Int)
    (hM : MkAt w mb la ll lc p t room) (hR : RawRow w B la ll z) (hB : B ≤ mb) (hll : ll ≤ maxLen) (ht : t.size ≤ 1000) (hr : room ≤ 1000) (hp : p ≤ ll) :
    Calls Try.prog 49 #[.pointer (some ⟨mb, 0, none⟩), .int .u8 (e.toNat : Int)] w fun r w' => PieceEnd w mb la ll lc t room e r w' := by
  rcases he with rfl | rfl | rfl | rfl | rfl | rfl | rfl | rfl
  · exact piece_80 w B mb la ll lc p t room z hM hR hB hll ht hr hp
  · exact piece_67 w B mb la ll lc p t room z hM hR hB hll ht hr hp
  · exact piece_114 w B mb la ll lc p t room z hM hR hB hll ht hr hp
  · exact piece_82 w B mb la ll lc p t room z hM hR hB hll ht hr hp
  · exact piece_68 w B mb la ll lc p t room z hM hR hB hll ht hr hp
  · exact piece_120 w B mb la ll lc p t room z hM hR hB hll ht hr hp
  · exact piece_58 w B mb la ll lc p t room z hM hR hB hll ht hr hp
  · exact piece_61 w B mb la ll lc p t room z hM hR hB hll ht hr hp
end Go.Proofs.Ytldongbimhngfaa
