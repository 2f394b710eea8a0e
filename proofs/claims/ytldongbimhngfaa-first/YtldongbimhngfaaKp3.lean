import Derived.Test.YtldongbimhngfaaKp2
namespace Go.Proofs.Ytldongbimhngfaa
open Go.RowKit
set_option linter.unusedVariables false
set_option linter.unusedSimpArgs false

/-- what a sign may stand for: what is written, what is still to be made; m: the least alone -/
def StepOk (m : Bool) (e : UInt8) (a more : List UInt8) : Prop :=
  if e = 80 then (a = [46] ∧ more = [120]) ∨ (m = false ∧ a = [63] ∧ more = [67, 58, 120, 80])
  else if e = 67 then (a = [84] ∧ more = []) ∨ (m = false ∧ ((a = [33] ∧ more = [67]) ∨ (a = [38] ∧ more = [67, 67]) ∨ (a = [124] ∧ more = [67, 67]) ∨ (a = [110] ∧ more = [114, 120]) ∨ (a = [104] ∧ more = [114, 120]) ∨ (a = [97] ∧ more = [68, 82])))
  else if e = 114 then (a = [61] ∨ a = [60] ∨ a = [62]) ∧ more = []
  else if e = 82 then ((a = [61] ∨ a = [60] ∨ a = [62]) ∧ more = [120, 120]) ∨ (m = false ∧ a = [38] ∧ more = [120, 120, 61, 120, 120])
  else if e = 68 then (a = [48] ∨ a = [49] ∨ a = [50] ∨ a = [51]) ∧ more = []
  else if e = 120 then (∃ v, v < 65536 ∧ a = hex4 v) ∧ more = []
  else a = [e] ∧ more = []

/-- what piece leaves -/
def PieceEnd (w : World) (mb : Nat) (la : Option Addr) (ll lc : Nat) (t : ByteArray) (room : Nat) (e : UInt8) (r : Ending) (w' : World) : Prop :=
  ∃ (a more : ByteArray) (p' : Nat), r = .returned (.tuple #[.string a, .string more]) ∧ StepOk (decide (room < t.size)) e a.data.toList more.data.toList ∧ p' ≤ ll ∧ MkAt w' mb la ll lc p' t room ∧ w.grownBy w' (some mb)
theorem PieceEnd.mk {w : World} {mb : Nat} {la : Option Addr} {ll lc : Nat} {t : ByteArray} {room : Nat} {e : UInt8} {w' : World} (a more : ByteArray) (p' : Nat) (h : StepOk (decide (room < t.size)) e a.data.toList more.data.toList) (hp : p' ≤ ll) (hM : MkAt w' mb la ll lc p' t room) (hg : w.grownBy w' (some mb)) :
    PieceEnd w mb la ll lc t room e (.returned (.tuple #[.string a, .string more])) w' := ⟨a, more, p', rfl, h, hp, hM, hg⟩

set_option maxRecDepth 100000 in
set_option maxHeartbeats 4000000 in
theorem piece_80 (w : World) (B mb : Nat) (la : Option Addr) (ll lc p : Nat) (t : ByteArray) (room : Nat) (z : Nat → Int)
    (hM : MkAt w mb la ll lc p t room) (hR : RawRow w B la ll z) (hB : B ≤ mb) (hll : ll ≤ maxLen) (ht : t.size ≤ 1000) (hr : room ≤ 1000) (hp : p ≤ ll) :
    Calls Try.prog 49 #[.pointer (some ⟨mb, 0, none⟩), .int .u8 80] w fun r w' => PieceEnd w mb la ll lc t room 80 r w' := by
  have hP := fun n hn hn1 => mpick_any w B mb la ll lc p t room z n hM hR hB hll ht hr hn hn1 hp
  have hmb := hM.lt
  clear hM hR
  have hP1 := hP 4 (by omega) (by omega)
  clear hP
  go_enter Try.func49, Try.ntmps49
  go_wp2_with fail
  refine hP1.mono ?_
  clear hP1
  rintro r w1 ⟨k, p', rfl, hk0, hk1, hmin, hp', hM1, hg1⟩
  have HM := hid hM1
  have Hg := hid hg1
  have Hmin := hid hmin
  have hz := hg1.size
  have hne : w1.heap.size ≠ mb := by omega
  clear hM1 hg1 hmin
  have hcase : k = 0 ∨ k = 1 ∨ k = 2 ∨ k = 3 := by omega
  rcases hcase with rfl | rfl | rfl | rfl
  · have Hd := hid True.intro
    clear Hmin hk0 hk1
    go_wp2_with fail
    go_ret2
    exact PieceEnd.mk ⟨#[46]⟩ ⟨#[120]⟩ p' (by unfold StepOk; simp) hp' HM.out (Hg.out)
  · have hd : decide (room < t.size) = false := by
      by_cases h : room < t.size
      · have := Hmin.out h; omega
      · simp [h]
    have Hd := hid hd
    clear hd
    clear Hmin hk0 hk1
    go_wp2_with fail
    go_ret2
    exact PieceEnd.mk ⟨#[63]⟩ ⟨#[67, 58, 120, 80]⟩ p' (by unfold StepOk; rw [Hd.out]; simp) hp' HM.out (Hg.out)
  · have hd : decide (room < t.size) = false := by
      by_cases h : room < t.size
      · have := Hmin.out h; omega
      · simp [h]
    have Hd := hid hd
    clear hd
    clear Hmin hk0 hk1
    go_wp2_with fail
    go_ret2
    exact PieceEnd.mk ⟨#[63]⟩ ⟨#[67, 58, 120, 80]⟩ p' (by unfold StepOk; rw [Hd.out]; simp) hp' HM.out (Hg.out)
  · have hd : decide (room < t.size) = false := by
      by_cases h : room < t.size
      · have := Hmin.out h; omega
      · simp [h]
    have Hd := hid hd
    clear hd
    clear Hmin hk0 hk1
    go_wp2_with fail
    go_ret2
    exact PieceEnd.mk ⟨#[63]⟩ ⟨#[67, 58, 120, 80]⟩ p' (by unfold StepOk; rw [Hd.out]; simp) hp' HM.out (Hg.out)

set_option maxRecDepth 100000 in
set_option maxHeartbeats 4000000 in
theorem piece_67 (w : World) (B mb : Nat) (la : Option Addr) (ll lc p : Nat) (t : ByteArray) (room : Nat) (z : Nat → Int)
    (hM : MkAt w mb la ll lc p t room) (hR : RawRow w B la ll z) (hB : B ≤ mb) (hll : ll ≤ maxLen) (ht : t.size ≤ 1000) (hr : room ≤ 1000) (hp : p ≤ ll) :
    Calls Try.prog 49 #[.pointer (some ⟨mb, 0, none⟩), .int .u8 67] w fun r w' => PieceEnd w mb la ll lc t room 67 r w' := by
  have hP := fun n hn hn1 => mpick_any w B mb la ll lc p t room z n hM hR hB hll ht hr hn hn1 hp
  have hmb := hM.lt
  clear hM hR
  have hP1 := hP 9 (by omega) (by omega)
  clear hP
  go_enter Try.func49, Try.ntmps49
  go_wp2_with fail
  refine hP1.mono ?_
  clear hP1
  rintro r w1 ⟨k, p', rfl, hk0, hk1, hmin, hp', hM1, hg1⟩
  have HM := hid hM1
  have Hg := hid hg1
  have Hmin := hid hmin
  have hz := hg1.size
  have hne : w1.heap.size ≠ mb := by omega
  clear hM1 hg1 hmin
  have hcase : k = 0 ∨ k = 1 ∨ k = 2 ∨ k = 3 ∨ k = 4 ∨ k = 5 ∨ k = 6 ∨ k = 7 ∨ k = 8 := by omega
  rcases hcase with rfl | rfl | rfl | rfl | rfl | rfl | rfl | rfl | rfl
  · have Hd := hid True.intro
    clear Hmin hk0 hk1
    go_wp2_with fail
    go_region
    go_wp2_with fail
    go_ret2
    exact PieceEnd.mk ⟨#[84]⟩ ⟨#[]⟩ p' (by unfold StepOk; simp) hp' (HM.out.alloc _) (gb_drew (gb_alloc Hg.out _))
  · have hd : decide (room < t.size) = false := by
      by_cases h : room < t.size
      · have := Hmin.out h; omega
      · simp [h]
    have Hd := hid hd
    clear hd
    clear Hmin hk0 hk1
    go_wp2_with fail
    go_region
    go_wp2_with fail
    go_ret2
    exact PieceEnd.mk ⟨#[33]⟩ ⟨#[67]⟩ p' (by unfold StepOk; rw [Hd.out]; simp) hp' (HM.out.alloc _) (gb_drew (gb_alloc Hg.out _))
  · have hd : decide (room < t.size) = false := by
      by_cases h : room < t.size
      · have := Hmin.out h; omega
      · simp [h]
    have Hd := hid hd
    clear hd
    clear Hmin hk0 hk1
    go_wp2_with fail
    go_region
    go_wp2_with fail
    go_ret2
    exact PieceEnd.mk ⟨#[38]⟩ ⟨#[67, 67]⟩ p' (by unfold StepOk; rw [Hd.out]; simp) hp' (HM.out.alloc _) (gb_drew (gb_alloc Hg.out _))
  · have hd : decide (room < t.size) = false := by
      by_cases h : room < t.size
      · have := Hmin.out h; omega
      · simp [h]
    have Hd := hid hd
    clear hd
    clear Hmin hk0 hk1
    go_wp2_with fail
    go_region
    go_wp2_with fail
    go_ret2
    exact PieceEnd.mk ⟨#[124]⟩ ⟨#[67, 67]⟩ p' (by unfold StepOk; rw [Hd.out]; simp) hp' (HM.out.alloc _) (gb_drew (gb_alloc Hg.out _))
  · have hd : decide (room < t.size) = false := by
      by_cases h : room < t.size
      · have := Hmin.out h; omega
      · simp [h]
    have Hd := hid hd
    clear hd
    clear Hmin hk0 hk1
    go_wp2_with fail
    go_region
    go_wp2_with fail
    go_ret2
    exact PieceEnd.mk ⟨#[110]⟩ ⟨#[114, 120]⟩ p' (by unfold StepOk; rw [Hd.out]; simp) hp' (HM.out.alloc _) (gb_drew (gb_alloc Hg.out _))
  · have hd : decide (room < t.size) = false := by
      by_cases h : room < t.size
      · have := Hmin.out h; omega
      · simp [h]
    have Hd := hid hd
    clear hd
    clear Hmin hk0 hk1
    go_wp2_with fail
    go_region
    go_wp2_with fail
    go_ret2
    exact PieceEnd.mk ⟨#[104]⟩ ⟨#[114, 120]⟩ p' (by unfold StepOk; rw [Hd.out]; simp) hp' (HM.out.alloc _) (gb_drew (gb_alloc Hg.out _))
  · have hd : decide (room < t.size) = false := by
      by_cases h : room < t.size
      · have := Hmin.out h; omega
      · simp [h]
    have Hd := hid hd
    clear hd
    clear Hmin hk0 hk1
    go_wp2_with fail
    go_region
    go_wp2_with fail
    go_ret2
    exact PieceEnd.mk ⟨#[97]⟩ ⟨#[68, 82]⟩ p' (by unfold StepOk; rw [Hd.out]; simp) hp' (HM.out.alloc _) (gb_drew (gb_alloc Hg.out _))
  · have hd : decide (room < t.size) = false := by
      by_cases h : room < t.size
      · have := Hmin.out h; omega
      · simp [h]
    have Hd := hid hd
    clear hd
    clear Hmin hk0 hk1
    go_wp2_with fail
    go_region
    go_wp2_with fail
    go_ret2
    exact PieceEnd.mk ⟨#[97]⟩ ⟨#[68, 82]⟩ p' (by unfold StepOk; rw [Hd.out]; simp) hp' (HM.out.alloc _) (gb_drew (gb_alloc Hg.out _))
  · have hd : decide (room < t.size) = false := by
      by_cases h : room < t.size
      · have := Hmin.out h; omega
      · simp [h]
    have Hd := hid hd
    clear hd
    clear Hmin hk0 hk1
    go_wp2_with fail
    go_region
    go_wp2_with fail
    go_ret2
    exact PieceEnd.mk ⟨#[97]⟩ ⟨#[68, 82]⟩ p' (by unfold StepOk; rw [Hd.out]; simp) hp' (HM.out.alloc _) (gb_drew (gb_alloc Hg.out _))

set_option maxRecDepth 100000 in
set_option maxHeartbeats 4000000 in
theorem piece_114 (w : World) (B mb : Nat) (la : Option Addr) (ll lc p : Nat) (t : ByteArray) (room : Nat) (z : Nat → Int)
    (hM : MkAt w mb la ll lc p t room) (hR : RawRow w B la ll z) (hB : B ≤ mb) (hll : ll ≤ maxLen) (ht : t.size ≤ 1000) (hr : room ≤ 1000) (hp : p ≤ ll) :
    Calls Try.prog 49 #[.pointer (some ⟨mb, 0, none⟩), .int .u8 114] w fun r w' => PieceEnd w mb la ll lc t room 114 r w' := by
  have hP := fun n hn hn1 => mpick_any w B mb la ll lc p t room z n hM hR hB hll ht hr hn hn1 hp
  have hmb := hM.lt
  clear hM hR
  have hP1 := hP 3 (by omega) (by omega)
  clear hP
  go_enter Try.func49, Try.ntmps49
  go_wp2_with fail
  refine hP1.mono ?_
  clear hP1
  rintro r w1 ⟨k, p', rfl, hk0, hk1, hmin, hp', hM1, hg1⟩
  have HM := hid hM1
  have Hg := hid hg1
  have Hmin := hid hmin
  have hz := hg1.size
  have hne : w1.heap.size ≠ mb := by omega
  clear hM1 hg1 hmin
  have hcase : k = 0 ∨ k = 1 ∨ k = 2 := by omega
  rcases hcase with rfl | rfl | rfl
  · have Hd := hid True.intro
    clear Hmin hk0 hk1
    go_wp2_with fail
    go_ret2
    exact PieceEnd.mk ⟨#[61]⟩ ⟨#[]⟩ p' (by unfold StepOk; simp) hp' HM.out (Hg.out)
  · have Hd := hid True.intro
    clear Hmin hk0 hk1
    go_wp2_with fail
    go_ret2
    exact PieceEnd.mk ⟨#[60]⟩ ⟨#[]⟩ p' (by unfold StepOk; simp) hp' HM.out (Hg.out)
  · have Hd := hid True.intro
    clear Hmin hk0 hk1
    go_wp2_with fail
    go_ret2
    exact PieceEnd.mk ⟨#[62]⟩ ⟨#[]⟩ p' (by unfold StepOk; simp) hp' HM.out (Hg.out)

set_option maxRecDepth 100000 in
set_option maxHeartbeats 4000000 in
theorem piece_82 (w : World) (B mb : Nat) (la : Option Addr) (ll lc p : Nat) (t : ByteArray) (room : Nat) (z : Nat → Int)
    (hM : MkAt w mb la ll lc p t room) (hR : RawRow w B la ll z) (hB : B ≤ mb) (hll : ll ≤ maxLen) (ht : t.size ≤ 1000) (hr : room ≤ 1000) (hp : p ≤ ll) :
    Calls Try.prog 49 #[.pointer (some ⟨mb, 0, none⟩), .int .u8 82] w fun r w' => PieceEnd w mb la ll lc t room 82 r w' := by
  have hP := fun n hn hn1 => mpick_any w B mb la ll lc p t room z n hM hR hB hll ht hr hn hn1 hp
  have hmb := hM.lt
  clear hM hR
  have hP1 := hP 4 (by omega) (by omega)
  clear hP
  go_enter Try.func49, Try.ntmps49
  go_wp2_with fail
  refine hP1.mono ?_
  clear hP1
  rintro r w1 ⟨k, p', rfl, hk0, hk1, hmin, hp', hM1, hg1⟩
  have HM := hid hM1
  have Hg := hid hg1
  have Hmin := hid hmin
  have hz := hg1.size
  have hne : w1.heap.size ≠ mb := by omega
  clear hM1 hg1 hmin
  have hcase : k = 0 ∨ k = 1 ∨ k = 2 ∨ k = 3 := by omega
  rcases hcase with rfl | rfl | rfl | rfl
  · have Hd := hid True.intro
    clear Hmin hk0 hk1
    go_wp2_with fail
    go_region
    go_wp2_with fail
    go_ret2
    exact PieceEnd.mk ⟨#[61]⟩ ⟨#[120, 120]⟩ p' (by unfold StepOk; simp) hp' (HM.out.alloc _) (gb_drew (gb_alloc Hg.out _))
  · have Hd := hid True.intro
    clear Hmin hk0 hk1
    go_wp2_with fail
    go_region
    go_wp2_with fail
    go_ret2
    exact PieceEnd.mk ⟨#[60]⟩ ⟨#[120, 120]⟩ p' (by unfold StepOk; simp) hp' (HM.out.alloc _) (gb_drew (gb_alloc Hg.out _))
  · have Hd := hid True.intro
    clear Hmin hk0 hk1
    go_wp2_with fail
    go_region
    go_wp2_with fail
    go_ret2
    exact PieceEnd.mk ⟨#[62]⟩ ⟨#[120, 120]⟩ p' (by unfold StepOk; simp) hp' (HM.out.alloc _) (gb_drew (gb_alloc Hg.out _))
  · have hd : decide (room < t.size) = false := by
      by_cases h : room < t.size
      · have := Hmin.out h; omega
      · simp [h]
    have Hd := hid hd
    clear hd
    clear Hmin hk0 hk1
    go_wp2_with fail
    go_region
    go_wp2_with fail
    go_ret2
    exact PieceEnd.mk ⟨#[38]⟩ ⟨#[120, 120, 61, 120, 120]⟩ p' (by unfold StepOk; rw [Hd.out]; simp) hp' (HM.out.alloc _) (gb_drew (gb_alloc Hg.out _))

set_option maxRecDepth 100000 in
set_option maxHeartbeats 4000000 in
theorem piece_68 (w : World) (B mb : Nat) (la : Option Addr) (ll lc p : Nat) (t : ByteArray) (room : Nat) (z : Nat → Int)
    (hM : MkAt w mb la ll lc p t room) (hR : RawRow w B la ll z) (hB : B ≤ mb) (hll : ll ≤ maxLen) (ht : t.size ≤ 1000) (hr : room ≤ 1000) (hp : p ≤ ll) :
    Calls Try.prog 49 #[.pointer (some ⟨mb, 0, none⟩), .int .u8 68] w fun r w' => PieceEnd w mb la ll lc t room 68 r w' := by
  have hP := fun n hn hn1 => mpick_any w B mb la ll lc p t room z n hM hR hB hll ht hr hn hn1 hp
  have hmb := hM.lt
  clear hM hR
  have hP1 := hP 4 (by omega) (by omega)
  clear hP
  go_enter Try.func49, Try.ntmps49
  go_wp2_with fail
  refine hP1.mono ?_
  clear hP1
  rintro r w1 ⟨k, p', rfl, hk0, hk1, hmin, hp', hM1, hg1⟩
  have HM := hid hM1
  have Hg := hid hg1
  have Hmin := hid hmin
  have hz := hg1.size
  have hne : w1.heap.size ≠ mb := by omega
  clear hM1 hg1 hmin
  have hcase : k = 0 ∨ k = 1 ∨ k = 2 ∨ k = 3 := by omega
  rcases hcase with rfl | rfl | rfl | rfl
  · have Hd := hid True.intro
    clear Hmin hk0 hk1
    go_wp2_with fail
    go_ret2
    exact PieceEnd.mk ⟨#[48]⟩ ⟨#[]⟩ p' (by unfold StepOk; simp) hp' HM.out (Hg.out)
  · have Hd := hid True.intro
    clear Hmin hk0 hk1
    go_wp2_with fail
    go_ret2
    exact PieceEnd.mk ⟨#[49]⟩ ⟨#[]⟩ p' (by unfold StepOk; simp) hp' HM.out (Hg.out)
  · have Hd := hid True.intro
    clear Hmin hk0 hk1
    go_wp2_with fail
    go_ret2
    exact PieceEnd.mk ⟨#[50]⟩ ⟨#[]⟩ p' (by unfold StepOk; simp) hp' HM.out (Hg.out)
  · have Hd := hid True.intro
    clear Hmin hk0 hk1
    go_wp2_with fail
    go_ret2
    exact PieceEnd.mk ⟨#[51]⟩ ⟨#[]⟩ p' (by unfold StepOk; simp) hp' HM.out (Hg.out)
end Go.Proofs.Ytldongbimhngfaa
