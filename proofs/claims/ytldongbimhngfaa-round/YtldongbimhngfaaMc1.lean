/- Instructions as they lie in memory. -/
import Derived.Test.YtldongbimhngfaaGJd
import Derived.Test.YtldongbimhngfaaCs
import Derived.Deep.RegionLaw
import Derived.BigRegion
namespace Go.Proofs.Ytldongbimhngfaa
open Go.RowKit
set_option linter.unusedVariables false
set_option linter.unusedSimpArgs false

/-- the cells of an instruction -/
def inCells (x : Sc.In) : Array Value := #[.int .i64 x.op, .int .i64 x.t, .int .i64 x.f, .int .i64 x.k]
def insCells (l : List Sc.In) : List Value := l.flatMap fun x => (inCells x).toList
theorem insCells_snoc (l : List Sc.In) (x : Sc.In) : insCells (l ++ [x]) = insCells l ++ (inCells x).toList := by simp [insCells]
theorem insCells_len (l : List Sc.In) : (insCells l).length = l.length * 4 := by
  induction l with
  | nil => rfl
  | cons x r ih => simp only [insCells, List.flatMap_cons, List.length_append, List.length_cons] at *; rw [ih]; simp [inCells]; omega
theorem insCells_at (l : List Sc.In) : ∀ (i j : Nat) (h : i < l.length), j < 4 → (insCells l)[i * 4 + j]? = (inCells l[i])[j]? := by
  induction l with
  | nil => intro i j h; simp at h
  | cons x r ih =>
    intro i j h hj
    have e : insCells (x :: r) = (inCells x).toList ++ insCells r := by simp [insCells]
    have hl : (inCells x).toList.length = 4 := rfl
    rw [e]
    cases i with
    | zero =>
      rw [List.getElem?_append_left (by omega)]
      simp
    | succ i =>
      rw [List.getElem?_append_right (by omega), hl]
      have : (i + 1) * 4 + j - 4 = i * 4 + j := by omega
      rw [this, ih i j (by simpa using h) hj]
      simp
theorem ins_len (c : ByteArray) (n : Nat) : (Sc.ins c n).length = n := by
  induction n with
  | zero => rfl
  | succ n ih => simp [Sc.ins, ih]
theorem ins_get (c : ByteArray) (n : Nat) : ∀ i (h : i < (Sc.ins c n).length), (Sc.ins c n)[i] = Sc.inAt c i := by
  induction n with
  | zero => intro i h; simp [Sc.ins] at h
  | succ n ih =>
    intro i h
    have hl := ins_len c n
    simp only [Sc.ins, List.length_append, List.length_cons, List.length_nil] at h
    by_cases hi : i < n
    · simp only [Sc.ins]
      rw [List.getElem_append_left (by omega)]
      exact ih i (by omega)
    · have : i = n := by omega
      subst this
      simp only [Sc.ins]
      rw [List.getElem_append_right (by omega)]
      simp [hl]
def zIn : Value := .agg #[.int .i64 0, .int .i64 0, .int .i64 0, .int .i64 0]
theorem uIn : Try.prog.underlying 39 = some (.slice 46) := by kernel_rfl
theorem iIn_ex : ∃ i, Try.prog.info? 46 = some i ∧ i.zero = some zIn ∧ i.size = 4 ∧ i.bytes = 32 := info_ex (by kernel_rfl)
theorem byte_rng {c : ByteArray} {i : Nat} (h : i < c.size) : 0 ≤ Sv.byteAt c i ∧ Sv.byteAt c i < 256 := by
  rw [byteAt_in h]; have := c[i].toNat_lt; omega
theorem decL_len {c : ByteArray} (h : Sc.decE c = 0) : (Sc.decL c).length = c.size / 5 := by
  unfold Sc.decL; rw [if_pos h, ins_len]
theorem decE_cases (c : ByteArray) : (Sc.decE c = 0 ∧ c.size ≤ 5120 ∧ c.size = 5 * (c.size / 5)) ∨ (Sc.decE c ≠ 0 ∧ Sc.decL c = []) := by
  by_cases h : Sc.decE c = 0
  · left
    refine ⟨h, ?_⟩
    unfold Sc.decE at h
    split at h
    · omega
    · split at h <;> omega
  · right
    exact ⟨h, by unfold Sc.decL; rw [if_neg h]⟩
end Go.Proofs.Ytldongbimhngfaa
