import Derived.Test.YtldongbimhngfaaKp1
namespace Go.Proofs.Ytldongbimhngfaa
open Go.RowKit
set_option linter.unusedVariables false
set_option linter.unusedSimpArgs false

/-- a list of numbers that came in: it lies below B -/
def RawRow (w : World) (B : Nat) (a : Option Addr) (len : Nat) (z : Nat → Int) : Prop :=
  ∀ i, i < len → ∃ b off, a = some ⟨b, off, none⟩ ∧ b < B ∧ w.cell? ⟨b, off + i, none⟩ = some (.int .i64 (z i)) ∧ -9223372036854775808 ≤ z i ∧ z i ≤ 9223372036854775807
theorem RawRow.keep {w w' : World} {B : Nat} {a : Option Addr} {len : Nat} {z : Nat → Int} {r : Option Nat} (h : RawRow w B a len z) (hg : w.grownBy w' r) (hB : B ≤ w.heap.size) (hr : ∀ k, r = some k → B ≤ k) : RawRow w' B a len z := by
  intro i hi
  obtain ⟨b, off, h1, h2, h3, h4⟩ := h i hi
  refine ⟨b, off, h1, h2, ?_, h4⟩
  rw [World.cell?_of_block (a := ⟨b, off + i, none⟩) (hg.block b (by omega) (fun e => by have := hr b e.symm; omega))]
  exact h3

/-- the maker's block -/
def MkAt (w : World) (mb : Nat) (la : Option Addr) (ll lc : Nat) (p : Nat) (t : ByteArray) (room : Nat) : Prop :=
  Blk w mb 71 #[.slice la ll lc, .int .i64 p, .string t, .int .i64 room]
theorem MkAt.set1 {w : World} {mb : Nat} {la : Option Addr} {ll lc p : Nat} {t : ByteArray} {room : Nat} (h : MkAt w mb la ll lc p t room) (i : Int) (q : Nat) (hq : i = q) : MkAt (w.setCell ⟨mb, 1, none⟩ (.int .i64 i)) mb la ll lc q t room := by
  have := Blk.set h 1 (.int .i64 i)
  subst hq
  unfold MkAt; simpa using this
theorem MkAt.set2 {w : World} {mb : Nat} {la : Option Addr} {ll lc p : Nat} {t : ByteArray} {room : Nat} (h : MkAt w mb la ll lc p t room) (t' : ByteArray) : MkAt (w.setCell ⟨mb, 2, none⟩ (.string t')) mb la ll lc p t' room := by
  have := Blk.set h 2 (.string t')
  unfold MkAt; simpa using this

set_option maxRecDepth 100000 in
set_option maxHeartbeats 1000000 in
theorem mpick_any (w : World) (B mb : Nat) (la : Option Addr) (ll lc p : Nat) (t : ByteArray) (room : Nat) (z : Nat → Int) (n : Int)
    (hM : MkAt w mb la ll lc p t room) (hR : RawRow w B la ll z) (hB : B ≤ mb) (hll : ll ≤ maxLen) (ht : t.size ≤ 1000) (hr : room ≤ 1000) (hn : 0 < n) (hn1 : n ≤ 65536) (hp : p ≤ ll) :
    Calls Try.prog 59 #[.pointer (some ⟨mb, 0, none⟩), .int .i64 n] w fun e w' => ∃ (k : Int) (p' : Nat), e = .returned (.int .i64 k) ∧ 0 ≤ k ∧ k < n ∧ (room < t.size → k = 0) ∧ p' ≤ ll ∧ MkAt w' mb la ll lc p' t room ∧ w.grownBy w' (some mb) := by
  unfold maxLen at hll
  have c0 := hM.cell 0
  have c1 := hM.cell 1
  have c2 := hM.cell 2
  have c3 := hM.cell 3
  have cf := hM.fz
  simp at c0 c1 c2 c3
  have HM := hid hM
  have hmb := hM.lt
  clear hM
  by_cases hge : ll ≤ p
  · have d1 : decide ((ll : Int) ≤ (p : Int)) = true := by simp; omega
    go_enter Try.func59, Try.ntmps59
    go_wp2_with fail
    go_quiet (fail)
    go_wp2_with fail
    go_ret
    exact ⟨0, p, rfl, by omega, hn, fun _ => rfl, hp, HM.out, gb_drewN (gb_refl _ _) _⟩
  · have d1 : decide ((ll : Int) ≤ (p : Int)) = false := by simp; omega
    by_cases hlong : room < t.size
    · have d2 : decide ((room : Int) < (t.size : Int)) = true := by simp; omega
      go_enter Try.func59, Try.ntmps59
      go_wp2_with fail
      go_quiet (fail)
      go_wp2_with fail
      go_ret
      exact ⟨0, p, rfl, by omega, hn, fun _ => rfl, hp, HM.out, gb_drewN (gb_refl _ _) _⟩
    · have d2 : decide ((room : Int) < (t.size : Int)) = false := by simp; omega
      obtain ⟨b, off, rfl, hb, hz, z0, z1⟩ := hR p (by omega)
      have hplt : p < ll := by omega
      have hpk := pk_range (z p) n hn
      have hnb : mb ≠ b := by omega
      generalize z p = zz at *
      go_enter Try.func59, Try.ntmps59
      go_wp2_with fail
      go_quiet (fail)
      replace HM : Hid (MkAt (w.drewN nq) mb (some ⟨b, off, none⟩) ll lc p t room) := HM.out
      have Hg : Hid (w.grownBy (w.drewN nq) (some mb)) := gb_drewN (gb_refl _ _) _
      replace hz := (rfl : (w.drewN nq).cell? _ = w.cell? _).trans hz
      replace c0 := (rfl : (w.drewN nq).cell? _ = w.cell? _).trans c0
      replace c1 := (rfl : (w.drewN nq).cell? _ = w.cell? _).trans c1
      have cf1 : (w.drewN nq).frozen? ⟨mb, 1, none⟩ = false := cf 1
      clear cf c2 c3 hmb
      generalize w.drewN nq = w1 at *
      go_wp2_with fail
      go_quiet ((go_at_call 17; exact Calls.quiet_of_same (pick_any _ _ _ z0 z1 hn (by omega))))
      go_wp2_with fail
      go_ret
      refine ⟨_, p + 1, rfl, hpk.1, hpk.2, fun h => absurd h hlong, by omega, ?_, ?_⟩
      · exact MkAt.set1 (w := World.drewN _ _) HM.out _ _ (by simp)
      · exact gb_set (gb_drewN Hg.out _) _ _
end Go.Proofs.Ytldongbimhngfaa
