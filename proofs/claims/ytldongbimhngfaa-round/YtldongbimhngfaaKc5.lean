/- sievekeep: bytes, ran. -/
import Derived.Test.YtldongbimhngfaaKc4
namespace Go.Proofs.Ytldongbimhngfaa
open Go.RowKit
set_option linter.unusedVariables false
set_option linter.unusedSimpArgs false

set_option maxRecDepth 100000 in
set_option maxHeartbeats 2000000 in
theorem kBytes_any (w : World) (sa : Option Addr) (sc : Nat) (L : List Sc.In) (hI : InsAt w sa L) (hS : SoundList L) :
    Calls Try.prog 25 #[.slice sa L.length sc] w fun e w' => e = .returned (.tuple #[.string (bytesOf L), .bool true]) ∧ w.grownBy w' none := by
  have hle := hS.1.1
  have hE := encode_any w sa sc L hI (by unfold maxLen; omega)
  rw [hS.1.encB, hS.1.encE] at hE
  have hsz := bytesOf_size L
  have hSo := hid (fun w => sound_any w (bytesOf L) (by unfold maxLen; omega))
  rw [hS.sound] at hSo
  have hD := hid (fun w => decode_any w (bytesOf L) (by unfold maxLen; omega))
  rw [hS.1.decL, hS.1.decE] at hD
  have HI := hid hI
  generalize bytesOf L = c at *
  have hsz1 : (c.size : Int) = 5 * (L.length : Int) := by omega
  have e1 : ((c.size : Int) == 5 * (L.length : Int)) = true := by simp [hsz1]
  have Hsz := hid hsz
  have Hsz1 := hid hsz1
  have hcs : c.size ≤ 5120 := by omega
  clear hI hS hsz hsz1
  go_enter Try.func25, Try.ntmps25
  go_wp2_with fail
  refine hE.mono ?_
  rintro e w1 ⟨rfl, hg1⟩
  clear hE
  go_wp2_with fail
  refine (hSo.out _).mono ?_
  rintro e w2 ⟨rfl, hg2⟩
  clear hSo
  go_wp2_with fail
  refine (hD.out _).mono ?_
  rintro e w3 ⟨sb, rfl, hg3, ho3⟩
  clear hD
  have hgg := gb_trans (gb_trans hg1 hg2) hg3
  have hX := kSame_any w3 sb sa L.length sc L (InsAt.of_own rfl ho3) (HI.out.keep hgg) hle
  clear ho3 hg1 hg2 hg3
  go_wp2_with fail
  refine hX.mono ?_
  rintro e w4 ⟨rfl, hg4⟩
  clear hX
  have HG := hid (gb_trans hgg hg4)
  clear hgg hg4
  go_wp2_with fail
  go_ret2
  exact ⟨rfl, HG.out⟩

set_option maxRecDepth 100000 in
set_option maxHeartbeats 2000000 in
theorem kRan_any (w : World) (L : List Sc.In) (r : ByteArray) (hS : SoundList L) (hr : r.size = 20) :
    Calls Try.prog 31 #[.string (bytesOf L), .string r] w fun e w' => e = .returned (.tuple #[.int .i64 (Sc.runL r L).1, .int .i64 (Sc.runL r L).2, .bool true]) ∧ w.grownBy w' none := by
  have hle := hS.1.1
  have hsz := bytesOf_size L
  have hR := run_any w (bytesOf L) r (by unfold maxLen; omega) (by unfold maxLen; omega)
  rw [hS.runC r hr] at hR
  obtain ⟨b1, b2, b3, b4⟩ := runL_rng r hr L hS
  generalize Sc.runL r L = X at *
  obtain ⟨v, n⟩ := X
  simp only at hR b1 b2 b3 b4
  generalize bytesOf L = c at *
  have e1 : (c.size : Int).tdiv 5 = (L.length : Int) := by rw [Int.tdiv_eq_ediv_of_nonneg (by omega)]; omega
  have e1' : (c.size : Int) / 5 = (L.length : Int) := by omega
  have d1 : decide (0 ≤ v) = true := by simp [b1]
  have d2 : decide (v < 65536) = true := by simp; omega
  have d3 : decide (0 < n) = true := by simp; omega
  have d4 : decide (n ≤ (L.length : Int)) = true := by simp [b4]
  have Hsz := hid hsz
  have hcs : c.size ≤ 5120 := by omega
  clear hS hsz
  go_enter Try.func31, Try.ntmps31
  go_wp2_with fail
  refine hR.mono ?_
  rintro e w1 ⟨rfl, hg1⟩
  clear hR
  go_wp2_with fail
  refine bodyPost_ret (v := .tuple #[.int .i64 v, .int .i64 n, .bool true]) (by simp [results, Try.results31, go_sem]) rfl ?_
  exact ⟨rfl, hg1⟩
end Go.Proofs.Ytldongbimhngfaa
