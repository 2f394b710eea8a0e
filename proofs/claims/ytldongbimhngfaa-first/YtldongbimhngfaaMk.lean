/- What is made out of numbers: plain mathematics. -/
import Derived.Test.YtldongbimhngfaaKp4
namespace Go.Proofs.Ytldongbimhngfaa
set_option linter.unusedVariables false
set_option linter.unusedSimpArgs false

/-- text can be made out of form in n steps -/
def Der : Nat → List UInt8 → List UInt8 → Prop
  | 0, form, text => form = [] ∧ text = []
  | n + 1, form, text => ∃ e f a more b, form = e :: f ∧ StepOk false e a more ∧ text = a ++ b ∧ Der n (more ++ f) b

theorem StepOk.weak {m : Bool} {e : UInt8} {a more : List UInt8} (h : StepOk m e a more) : StepOk false e a more := by
  unfold StepOk at *
  repeat' split at h
  all_goals simp_all
  · rcases h with h | h
    · exact Or.inl h
    · exact Or.inr h.2
  · rcases h with h | h
    · exact Or.inl h
    · exact Or.inr h.2
  · rcases h with h | h
    · exact Or.inl h
    · exact Or.inr h.2

/-- the least that a sign can become -/
def ml (e : UInt8) : Nat := if e = 80 then 5 else if e = 82 then 9 else if e = 120 then 4 else 1
def mlen (F : List UInt8) : Nat := (F.map ml).sum
theorem mlen_append (F G : List UInt8) : mlen (F ++ G) = mlen F + mlen G := by simp [mlen]
theorem mlen_cons (e : UInt8) (G : List UInt8) : mlen (e :: G) = ml e + mlen G := by simp [mlen]
theorem hex4_len (v : Nat) : (hex4 v).length = 4 := hexTo_len v 4

theorem step_min {e : UInt8} {a more : List UInt8} (h : StepOk true e a more) : a.length + mlen more = ml e := by
  unfold StepOk at h
  repeat' split at h
  · simp at h; obtain ⟨rfl, rfl⟩ := h; subst_vars; decide
  · simp at h; obtain ⟨rfl, rfl⟩ := h; subst_vars; decide
  · obtain ⟨h1, rfl⟩ := h; subst_vars; rcases h1 with rfl | rfl | rfl <;> decide
  · simp at h; obtain ⟨h1, rfl⟩ := h; subst_vars; rcases h1 with rfl | rfl | rfl <;> decide
  · obtain ⟨h1, rfl⟩ := h; subst_vars; rcases h1 with rfl | rfl | rfl | rfl <;> decide
  · obtain ⟨⟨v, _, rfl⟩, rfl⟩ := h; subst_vars; rw [hex4_len]; decide
  · obtain ⟨rfl, rfl⟩ := h
    unfold ml
    simp [mlen, *]
theorem step_len {m : Bool} {e : UInt8} {a more : List UInt8} (h : StepOk m e a more) : 1 ≤ a.length ∧ a.length ≤ 4 := by
  unfold StepOk at h
  repeat' split at h
  · rcases h with ⟨rfl, rfl⟩ | ⟨_, rfl, rfl⟩ <;> simp
  · rcases h with ⟨rfl, rfl⟩ | ⟨_, ⟨rfl, rfl⟩ | ⟨rfl, rfl⟩ | ⟨rfl, rfl⟩ | ⟨rfl, rfl⟩ | ⟨rfl, rfl⟩ | ⟨rfl, rfl⟩⟩ <;> simp
  · obtain ⟨h1, rfl⟩ := h; rcases h1 with rfl | rfl | rfl <;> simp
  · rcases h with ⟨h1, rfl⟩ | ⟨_, rfl, rfl⟩
    · rcases h1 with rfl | rfl | rfl <;> simp
    · simp
  · obtain ⟨h1, rfl⟩ := h; rcases h1 with rfl | rfl | rfl | rfl <;> simp
  · obtain ⟨⟨v, _, rfl⟩, rfl⟩ := h; rw [hex4_len]; simp
  · obtain ⟨rfl, rfl⟩ := h; simp

theorem len_mlen (G : List UInt8) : G.length ≤ mlen G := by
  induction G with
  | nil => simp
  | cons a G ih =>
    rw [mlen_cons, List.length_cons]
    have : 1 ≤ ml a := by
      unfold ml
      split
      · omega
      · split
        · omega
        · split <;> omega
    omega
theorem step_more {m : Bool} {e : UInt8} {a more : List UInt8} (h : StepOk m e a more) : more.length ≤ 7 := by
  unfold StepOk at h
  repeat' split at h
  · rcases h with ⟨rfl, rfl⟩ | ⟨_, rfl, rfl⟩ <;> simp
  · rcases h with ⟨rfl, rfl⟩ | ⟨_, ⟨rfl, rfl⟩ | ⟨rfl, rfl⟩ | ⟨rfl, rfl⟩ | ⟨rfl, rfl⟩ | ⟨rfl, rfl⟩ | ⟨rfl, rfl⟩⟩ <;> simp
  · obtain ⟨h1, rfl⟩ := h; simp
  · rcases h with ⟨h1, rfl⟩ | ⟨_, rfl, rfl⟩ <;> simp
  · obtain ⟨h1, rfl⟩ := h; simp
  · obtain ⟨⟨v, _, rfl⟩, rfl⟩ := h; simp
  · obtain ⟨rfl, rfl⟩ := h; simp

/-- the shape of a form: the rest of an atom, conditions, the rest of a rule -/
def AOk (A : List UInt8) : Prop := A = [] ∨ A = [68, 82] ∨ A = [82] ∨ A = [114, 120] ∨ A = [120] ∨ A = [120, 120] ∨ A = [61, 120, 120] ∨ A = [120, 61, 120, 120] ∨ A = [120, 120, 61, 120, 120]
def BOk (B : List UInt8) : Prop := B = [] ∨ B = [58, 120, 80]
def B0Ok (B : List UInt8) : Prop := B = [120, 80] ∨ B = [80] ∨ B = [120]
def Shape (k : Nat) (F : List UInt8) : Prop := (∃ A B, F = A ++ (List.replicate k 67 ++ B) ∧ AOk A ∧ BOk B) ∨ (k = 0 ∧ B0Ok F)

theorem shape_mlen {k : Nat} {F : List UInt8} (h : Shape k F) : mlen F ≤ k + 27 := by
  have hr : ∀ k : Nat, mlen (List.replicate k 67) = k := by
    intro k
    induction k with
    | zero => rfl
    | succ k ih => rw [List.replicate_succ, mlen_cons, ih]; unfold ml; simp; omega
  rcases h with ⟨A, B, rfl, hA, hB⟩ | ⟨rfl, hB⟩
  · rw [mlen_append, mlen_append, hr]
    have h1 : mlen A ≤ 17 := by
      rcases hA with rfl | rfl | rfl | rfl | rfl | rfl | rfl | rfl | rfl <;> decide
    have h2 : mlen B ≤ 10 := by rcases hB with rfl | rfl <;> decide
    omega
  · rcases hB with rfl | rfl | rfl <;> decide
theorem shape_sign {k : Nat} {e : UInt8} {F : List UInt8} (h : Shape k (e :: F)) : Sign e := by
  unfold Sign
  rcases h with ⟨A, B, hF, hA, hB⟩ | ⟨rfl, hB⟩
  · rcases hA with rfl | rfl | rfl | rfl | rfl | rfl | rfl | rfl | rfl
    · cases k with
      | zero =>
        rcases hB with rfl | rfl
        · simp at hF
        · simp at hF; simp [hF.1]
      | succ k => simp [List.replicate_succ] at hF; simp [hF.1]
    all_goals (simp at hF; simp [hF.1])
  · rcases hB with h | h | h <;> (simp at h; simp [h.1])

/-- a step keeps the shape; the conditions grow by at most one -/
theorem shape_step {k : Nat} {e : UInt8} {F a more : List UInt8} (h : Shape k (e :: F)) (hs : StepOk false e a more) : ∃ k', k' ≤ k + 1 ∧ Shape k' (more ++ F) := by
  rcases h with ⟨A, B, hF, hA, hB⟩ | ⟨rfl, hB⟩
  · rcases hA with rfl | rfl | rfl | rfl | rfl | rfl | rfl | rfl | rfl
    · cases k with
      | zero =>
        rcases hB with rfl | rfl
        · simp at hF
        · simp at hF
          obtain ⟨rfl, rfl⟩ := hF
          simp [StepOk] at hs
          obtain ⟨rfl, rfl⟩ := hs
          exact ⟨0, by omega, Or.inr ⟨rfl, Or.inl rfl⟩⟩
      | succ k =>
        simp [List.replicate_succ] at hF
        obtain ⟨rfl, rfl⟩ := hF
        simp [StepOk] at hs
        rcases hs with ⟨rfl, rfl⟩ | ⟨rfl, rfl⟩ | ⟨rfl, rfl⟩ | ⟨rfl, rfl⟩ | ⟨rfl, rfl⟩ | ⟨rfl, rfl⟩ | ⟨rfl, rfl⟩
        · exact ⟨k, by omega, Or.inl ⟨[], B, rfl, Or.inl rfl, hB⟩⟩
        · exact ⟨k + 1, by omega, Or.inl ⟨[], B, by simp [List.replicate_succ], Or.inl rfl, hB⟩⟩
        · exact ⟨k + 2, by omega, Or.inl ⟨[], B, by simp [List.replicate_succ], Or.inl rfl, hB⟩⟩
        · exact ⟨k + 2, by omega, Or.inl ⟨[], B, by simp [List.replicate_succ], Or.inl rfl, hB⟩⟩
        · exact ⟨k, by omega, Or.inl ⟨[114, 120], B, rfl, by simp [AOk], hB⟩⟩
        · exact ⟨k, by omega, Or.inl ⟨[114, 120], B, rfl, by simp [AOk], hB⟩⟩
        · exact ⟨k, by omega, Or.inl ⟨[68, 82], B, rfl, by simp [AOk], hB⟩⟩
    · simp at hF
      obtain ⟨rfl, rfl⟩ := hF
      simp [StepOk] at hs
      obtain ⟨_, rfl⟩ := hs
      exact ⟨k, by omega, Or.inl ⟨[82], B, rfl, by simp [AOk], hB⟩⟩
    · simp at hF
      obtain ⟨rfl, rfl⟩ := hF
      simp [StepOk] at hs
      rcases hs with ⟨_, rfl⟩ | ⟨_, rfl⟩
      · exact ⟨k, by omega, Or.inl ⟨[120, 120], B, rfl, by simp [AOk], hB⟩⟩
      · exact ⟨k, by omega, Or.inl ⟨[120, 120, 61, 120, 120], B, rfl, by simp [AOk], hB⟩⟩
    · simp at hF
      obtain ⟨rfl, rfl⟩ := hF
      simp [StepOk] at hs
      obtain ⟨_, rfl⟩ := hs
      exact ⟨k, by omega, Or.inl ⟨[120], B, rfl, by simp [AOk], hB⟩⟩
    · simp at hF
      obtain ⟨rfl, rfl⟩ := hF
      simp [StepOk] at hs
      obtain ⟨_, rfl⟩ := hs
      exact ⟨k, by omega, Or.inl ⟨[], B, rfl, by simp [AOk], hB⟩⟩
    · simp at hF
      obtain ⟨rfl, rfl⟩ := hF
      simp [StepOk] at hs
      obtain ⟨_, rfl⟩ := hs
      exact ⟨k, by omega, Or.inl ⟨[120], B, rfl, by simp [AOk], hB⟩⟩
    · simp at hF
      obtain ⟨rfl, rfl⟩ := hF
      simp [StepOk] at hs
      obtain ⟨_, rfl⟩ := hs
      exact ⟨k, by omega, Or.inl ⟨[120, 120], B, rfl, by simp [AOk], hB⟩⟩
    · simp at hF
      obtain ⟨rfl, rfl⟩ := hF
      simp [StepOk] at hs
      obtain ⟨_, rfl⟩ := hs
      exact ⟨k, by omega, Or.inl ⟨[61, 120, 120], B, rfl, by simp [AOk], hB⟩⟩
    · simp at hF
      obtain ⟨rfl, rfl⟩ := hF
      simp [StepOk] at hs
      obtain ⟨_, rfl⟩ := hs
      exact ⟨k, by omega, Or.inl ⟨[120, 61, 120, 120], B, rfl, by simp [AOk], hB⟩⟩
  · rcases hB with h | h | h
    · simp at h
      obtain ⟨rfl, rfl⟩ := h
      simp [StepOk] at hs
      obtain ⟨_, rfl⟩ := hs
      exact ⟨0, by omega, Or.inr ⟨rfl, by simp [B0Ok]⟩⟩
    · simp at h
      obtain ⟨rfl, rfl⟩ := h
      simp [StepOk] at hs
      rcases hs with ⟨_, rfl⟩ | ⟨_, rfl⟩
      · exact ⟨0, by omega, Or.inr ⟨rfl, by simp [B0Ok]⟩⟩
      · exact ⟨1, by omega, Or.inl ⟨[], [58, 120, 80], rfl, by simp [AOk], by simp [BOk]⟩⟩
    · simp at h
      obtain ⟨rfl, rfl⟩ := h
      simp [StepOk] at hs
      obtain ⟨_, rfl⟩ := hs
      exact ⟨0, by omega, Or.inl ⟨[], [], rfl, by simp [AOk], by simp [BOk]⟩⟩

/-- how long it gets -/
structure Bd (room : Nat) (F T : List UInt8) (k : Nat) : Prop where
  shape : Shape k F
  cnt : T.length ≤ room → k ≤ T.length + 1
  len : T.length + mlen F ≤ 2 * room + 36
theorem bd_step {room k : Nat} {e : UInt8} {F T a more : List UInt8} (h : Bd room (e :: F) T k) (hs : StepOk (decide (room < T.length)) e a more) : ∃ k', Bd room (more ++ F) (T ++ a) k' := by
  obtain ⟨k', hk, hsh⟩ := shape_step h.shape hs.weak
  have hl := step_len hs
  by_cases hlt : room < T.length
  · have hs' : StepOk true e a more := by rw [decide_eq_true hlt] at hs; exact hs
    have hm := step_min hs'
    have := h.len
    rw [mlen_cons] at this
    refine ⟨k', hsh, fun hx => ?_, ?_⟩
    · simp at hx; omega
    · rw [List.length_append, mlen_append]; omega
  · have hc := h.cnt (by omega)
    have hm := shape_mlen hsh
    refine ⟨k', hsh, fun hx => ?_, ?_⟩
    · rw [List.length_append]; omega
    · rw [List.length_append]; omega
end Go.Proofs.Ytldongbimhngfaa
