/- The document's own reading (what may stand next) and the program's: the same error, the same place. -/
import Derived.Test.YtldongbimhngfaaGJd
import Derived.Test.YtldongbimhngfaaNx
namespace Go.Proofs.Ytldongbimhngfaa
set_option linter.unusedVariables false
set_option linter.unusedSimpArgs false
namespace Sv

theorem nxt_neg (form : List UInt8) : nxt form (-1) = none := by
  cases form with
  | nil => rfl
  | cons e rest =>
    have : ¬ ((-1 : Int) = (e.toNat : Int)) := by omega
    simp only [nxt, isRel, isHex]
    repeat' split
    all_goals first | rfl | omega | (simp at *)

theorem run_step (t : ByteArray) (p : Nat) (hp : p ≤ t.size) (e : UInt8) (K : List UInt8) :
    run t p (e :: K) = match nxt (e :: K) (byteAt t p) with | none => (2, (p : Int)) | some f => run t (p + 1) f := by
  unfold run
  by_cases h : p < t.size
  · have : t.size - p = (t.size - (p + 1)) + 1 := by omega
    rw [this, runN]
    cases nxt (e :: K) (byteAt t p) <;> rfl
  · have h0 : t.size - p = 0 := by omega
    rw [h0, byteAt_out (by omega), nxt_neg]
    simp [runN]
theorem run_nil (t : ByteArray) (p : Nat) (hp : p ≤ t.size) : run t p [] = if p < t.size then (2, (p : Int)) else (0, 0) := by
  unfold run
  by_cases h : p < t.size
  · have : t.size - p = (t.size - (p + 1)) + 1 := by omega
    rw [this, runN, if_pos h]; rfl
  · have h0 : t.size - p = 0 := by omega
    rw [h0, if_neg h]; rfl

/-- f reads what X stands for -/
def Rds (t : ByteArray) (X : List UInt8) (f : St → St) : Prop := ∀ s : St, s.p ≤ t.size →
  (f s).p ≤ t.size ∧ (s.f = true → (f s).f = true ∧ (f s).p = s.p) ∧
  (s.f = false → ∀ K, ((f s).f = false → run t s.p (X ++ K) = run t (f s).p K) ∧ ((f s).f = true → run t s.p (X ++ K) = (2, ((f s).p : Int))))

theorem Rds.comp {t : ByteArray} {X Y : List UInt8} {f g : St → St} (h1 : Rds t X f) (h2 : Rds t Y g) : Rds t (X ++ Y) (fun s => g (f s)) := by
  intro s hp
  obtain ⟨a1, a2, a3⟩ := h1 s hp
  obtain ⟨b1, b2, b3⟩ := h2 (f s) a1
  refine ⟨b1, fun hf => ?_, fun hf K => ?_⟩
  · have := a2 hf
    have := b2 this.1
    exact ⟨this.1, this.2.trans (a2 hf).2⟩
  · rw [List.append_assoc]
    cases hm : (f s).f
    · have h3 := (a3 hf (Y ++ K)).1 hm
      have h4 := b3 hm K
      rw [h3]; exact h4
    · have h3 := (a3 hf (Y ++ K)).2 hm
      have h4 := b2 hm
      rw [h3]
      exact ⟨(fun h => by rw [h4.1] at h; cases h), fun _ => by rw [h4.2]⟩

/-- one sign: f goes on where the byte may stand, else it fails -/
theorem Rds.one {t : ByteArray} {e : UInt8} {f : St → St} (ok : Int → Bool) (hneg : ok (-1) = false) (hn : ∀ K c, nxt (e :: K) c = if ok c = true then some K else none)
    (hf : ∀ s, f s = if ok (look t s) = true then ⟨s.p + 1, s.f⟩ else ⟨s.p, true⟩) : Rds t [e] f := by
  intro s hp
  rw [hf s]
  cases hs : s.f
  · have hl : look t s = byteAt t s.p := by unfold look; rw [hs]; rfl
    rw [hl]
    by_cases h : ok (byteAt t s.p) = true
    · have hlt : s.p < t.size := by
        apply lt_of_byteAt
        have := byteAt_ge t s.p
        by_cases h0 : byteAt t s.p = -1
        · rw [h0, hneg] at h; cases h
        · omega
      rw [if_pos h]
      refine ⟨hlt, (fun e => by cases e), fun _ K => ⟨fun _ => ?_, fun e => by cases e⟩⟩
      show run t s.p (e :: K) = _
      rw [run_step t s.p hp, hn, if_pos h]
    · rw [if_neg h]
      refine ⟨hp, (fun e => by cases e), fun _ K => ⟨(fun e => by cases e), fun _ => ?_⟩⟩
      show run t s.p (e :: K) = _
      rw [run_step t s.p hp, hn, if_neg h]
  · have hl : look t s = -1 := by unfold look; rw [hs]; rfl
    rw [hl, hneg]
    exact ⟨hp, fun _ => ⟨rfl, rfl⟩, fun e => by cases e⟩

theorem rds_need (t : ByteArray) (e : UInt8) (he : e = 58 ∨ e = 46 ∨ e = 61) (b : Int) (hb : b = e.toNat) : Rds t [e] (need t b) := by
  refine Rds.one (fun c => decide (c = b)) (by simp; omega) (fun K c => ?_) (fun s => ?_)
  · subst hb
    rcases he with rfl | rfl | rfl <;> simp [nxt]
  · unfold need; simp

theorem rds_digit (t : ByteArray) : Rds t [120] (fun s => (digit t s).2) := by
  refine Rds.one isHex (by decide) (fun K c => by simp [nxt]) (fun s => ?_)
  unfold digit isHex
  by_cases h1 : 48 ≤ look t s ∧ look t s ≤ 57
  · simp [h1]
  · by_cases h2 : 97 ≤ look t s ∧ look t s ≤ 102
    · simp [h1, h2]
    · rw [if_neg h1, if_neg h2, if_neg]
      simp only [Bool.or_eq_true, Bool.and_eq_true, decide_eq_true_eq]
      omega

theorem rds_word (t : ByteArray) : Rds t [120, 120, 120, 120] (fun s => (word t s).2) :=
  (((rds_digit t).comp (rds_digit t)).comp (rds_digit t)).comp (rds_digit t)
theorem rds_value (t : ByteArray) : Rds t [120, 120, 120, 120, 120, 120, 120, 120] (fun s => (value t s).2) := (rds_word t).comp (rds_word t)
theorem rds_relation (t : ByteArray) : Rds t [114] (fun s => (relation t s).2) := by
  refine Rds.one isRel (by decide) (fun K c => by simp [nxt]) (fun s => ?_)
  unfold relation isRel
  by_cases h1 : look t s = 61
  · simp [h1]
  · by_cases h2 : look t s = 60
    · simp [h2]
    · by_cases h3 : look t s = 62
      · simp [h3]
      · simp [h1, h2, h3]
theorem rds_index (t : ByteArray) : Rds t [68] (fun s => (index t s).2) := by
  refine Rds.one (fun c => decide (48 ≤ c ∧ c ≤ 51)) (by decide) (fun K c => by simp [nxt]) (fun s => ?_)
  unfold index
  by_cases h1 : 48 ≤ look t s ∧ look t s ≤ 51
  · simp [h1]
  · rw [if_neg h1, if_neg (by simpa using h1)]
theorem rds_short (t : ByteArray) (k : Int) : Rds t [114, 120, 120, 120, 120] (fun s => (short t k s).2) := (rds_relation t).comp (rds_word t)


/-- behind the number of an argument: a relation and a value, or the sign of bits, a mask and a value -/
def argRest (t : ByteArray) (s : St) : St :=
  if look t s = 38 then (value t (need t 61 (value t ⟨s.p + 1, s.f⟩).2)).2 else (value t (relation t s).2).2
set_option maxRecDepth 100000 in
theorem argument_rest (t : ByteArray) (s : St) : (argument t s).2 = argRest t (index t s).2 := by
  unfold argument argRest
  split <;> rfl
set_option maxRecDepth 100000 in
theorem rds_argRest (t : ByteArray) : Rds t [82] (argRest t) := by
  intro s hp
  have hm := (((rds_value t).comp (rds_need t 61 (by simp) 61 rfl)).comp (rds_value t)) ⟨s.p + 1, s.f⟩
  have hr := ((rds_relation t).comp (rds_value t)) s hp
  cases hs : s.f
  · have hl : look t s = byteAt t s.p := by unfold look; rw [hs]; rfl
    by_cases h : byteAt t s.p = 38
    · have hlt : s.p < t.size := lt_of_byteAt (by omega)
      have e : argRest t s = (value t (need t 61 (value t ⟨s.p + 1, s.f⟩).2)).2 := by unfold argRest; rw [hl, if_pos h]
      obtain ⟨m1, m2, m3⟩ := hm hlt
      rw [hs] at e m1 m2 m3
      rw [e]
      refine ⟨m1, (fun e => by cases e), fun _ K => ?_⟩
      have hst : run t s.p ([82] ++ K) = run t (s.p + 1) ([120, 120, 120, 120, 120, 120, 120, 120, 61, 120, 120, 120, 120, 120, 120, 120, 120] ++ K) := by
        show run t s.p (82 :: K) = _
        rw [run_step t s.p hp]; simp only [nxt]; simp [h]
      rw [hst]
      exact m3 rfl K
    · have e : argRest t s = (value t (relation t s).2).2 := by unfold argRest; rw [hl, if_neg h]
      obtain ⟨r1, r2, r3⟩ := hr
      rw [e]
      refine ⟨r1, (fun e => by cases e), fun _ K => ?_⟩
      have hst : run t s.p ([82] ++ K) = run t s.p ([114, 120, 120, 120, 120, 120, 120, 120, 120] ++ K) := by
        show run t s.p (82 :: K) = run t s.p (114 :: ([120, 120, 120, 120, 120, 120, 120, 120] ++ K))
        rw [run_step t s.p hp, run_step t s.p hp]; simp only [nxt]; simp [h]
      rw [hst]
      exact r3 hs K
  · have hl : look t s = -1 := by unfold look; rw [hs]; rfl
    have e : argRest t s = (value t (relation t s).2).2 := by unfold argRest; rw [hl, if_neg (by decide)]
    rw [e]
    obtain ⟨r1, r2, r3⟩ := hr
    exact ⟨r1, fun _ => r2 hs, fun e => by cases e⟩
theorem rds_argument (t : ByteArray) : Rds t [68, 82] (fun s => (argument t s).2) := by
  have := (rds_index t).comp (rds_argRest t)
  intro s hp
  have h := this s hp
  simp only at h ⊢
  rw [argument_rest]
  exact h

/-- the conditions that are still to come behind a term -/
def condForm (k : Int) : List UInt8 := List.replicate (parts k).toNat 67

theorem term_fail (t : ByteArray) (s : St) (hs : s.f = true) : term t s = (tm0 0, ⟨s.p, true⟩) := by
  have hl : look t s = -1 := by unfold look; rw [hs]; rfl
  unfold term; rw [hl]; simp
theorem rds_term (t : ByteArray) (s : St) (hp : s.p ≤ t.size) (hs : s.f = false) (K : List UInt8) :
    ((term t s).2.f = false → run t s.p (67 :: K) = run t (term t s).2.p (condForm (term t s).1.kind ++ K)) ∧
    ((term t s).2.f = true → run t s.p (67 :: K) = (2, ((term t s).2.p : Int))) := by
  have hl : look t s = byteAt t s.p := by unfold look; rw [hs]; rfl
  rw [run_step t s.p hp]
  have hlt : 0 ≤ byteAt t s.p → s.p < t.size := lt_of_byteAt
  simp only [nxt]
  unfold term
  rw [hl]
  generalize byteAt t s.p = c at *
  by_cases h1 : c = 84
  · subst h1; simp [hs, condForm, parts, tm0]
  by_cases h2 : c = 33
  · subst h2; simp [hs, condForm, parts, tm0]
  by_cases h3 : c = 38
  · subst h3; simp [hs, condForm, parts, tm0]
  by_cases h4 : c = 124
  · subst h4; simp [hs, condForm, parts, tm0]
  by_cases h5 : c = 110
  · subst h5
    have := (rds_short t 0 ⟨s.p + 1, false⟩ (hlt (by omega))).2.2 rfl K
    simp [hs, condForm, parts, short] at this ⊢
    exact this
  by_cases h6 : c = 104
  · subst h6
    have := (rds_short t 2 ⟨s.p + 1, false⟩ (hlt (by omega))).2.2 rfl K
    simp [hs, condForm, parts, short] at this ⊢
    exact this
  by_cases h7 : c = 97
  · subst h7
    have h := (rds_argument t ⟨s.p + 1, false⟩ (hlt (by omega))).2.2 rfl K
    have hk : (argument t ⟨s.p + 1, false⟩).1.kind = 4 := by unfold argument; split <;> rfl
    simp [hs, condForm, parts, hk] at h ⊢
    exact h
  simp [h1, h2, h3, h4, h5, h6, h7]

/-- m conditions -/
theorem rds_cond (t : ByteArray) (n : Nat) : ∀ (m : Nat) (s : St), s.p ≤ t.size → s.f = false → t.size + 1 ≤ s.p + n → ∀ K : List UInt8,
    ((cond t n m s).2.f = false → run t s.p (List.replicate m 67 ++ K) = run t (cond t n m s).2.p K) ∧
    ((cond t n m s).2.f = true → run t s.p (List.replicate m 67 ++ K) = (2, ((cond t n m s).2.p : Int))) := by
  induction n with
  | zero => intro m s hp hs hn; omega
  | succ n ih =>
    intro m s hp hs hn K
    cases m with
    | zero =>
      rw [cond_stop t _ _ s (Or.inl (by simp))]
      exact ⟨fun _ => rfl, fun h => by rw [hs] at h; cases h⟩
    | succ m =>
      rw [cond_go t n _ s (by omega) hs]
      have hT := rds_term t s hp hs (List.replicate m 67 ++ K)
      have hp1 := Sv_term_p t s hp
      have ha := term_adv t s
      have hr := parts_range (term t s).1.kind
      have e1 : ((m + 1 : Nat) : Int) - 1 + parts (term t s).1.kind = ((m + (parts (term t s).1.kind).toNat : Nat) : Int) := by omega
      rw [e1]
      have e2 : List.replicate (m + 1) (67 : UInt8) ++ K = 67 :: (List.replicate m 67 ++ K) := by simp [List.replicate_succ]
      rw [e2]
      cases hf : (term t s).2.f
      · have h1 := hT.1 hf
        have h2 := ih (m + (parts (term t s).1.kind).toNat) (term t s).2 hp1 hf (by have := ha hf; omega) K
        have e3 : condForm (term t s).1.kind ++ (List.replicate m 67 ++ K) = List.replicate (m + (parts (term t s).1.kind).toNat) 67 ++ K := by
          unfold condForm; rw [← List.append_assoc, List.replicate_append_replicate, Nat.add_comm]
        rw [h1, e3]
        exact h2
      · have h1 := hT.2 hf
        rw [cond_stop t _ _ _ (Or.inr hf)]
        rw [h1]
        exact ⟨(fun h => by rw [hf] at h; cases h), fun _ => rfl⟩
theorem cond_fail (t : ByteArray) (s : St) (hs : s.f = true) : condition t s = ([], s) := cond_stop t _ _ s (Or.inr hs)
theorem rds_condition (t : ByteArray) : Rds t [67] (fun s => (condition t s).2) := by
  intro s hp
  refine ⟨(Sv_condition_p t s hp).1, fun hs => ?_, fun hs K => ?_⟩
  · simp only; rw [cond_fail t s hs]; exact ⟨hs, rfl⟩
  · exact rds_cond t (t.size + 1) 1 s hp hs (by omega) K
theorem rds_rule (t : ByteArray) : Rds t [67, 58, 120, 120, 120, 120] (fun s => (rule t s).2) :=
  ((rds_condition t).comp (rds_need t 58 (by simp) 58 rfl)).comp (rds_word t)

theorem rules_keep (t : ByteArray) (n : Nat) (s : St) (hs : s.f = true) : rules t n s = ([], s) := rules_stop t n s (by unfold look; rw [hs]; simp)
/-- rules, and the default behind them -/
theorem rds_rules (t : ByteArray) (n : Nat) : ∀ (s : St), s.p ≤ t.size → s.f = false → t.size + 1 ≤ s.p + n → ∀ K : List UInt8,
    ((need t 46 (rules t n s).2).f = false → run t s.p (80 :: K) = run t (need t 46 (rules t n s).2).p ([120, 120, 120, 120] ++ K)) ∧
    ((need t 46 (rules t n s).2).f = true → run t s.p (80 :: K) = (2, ((need t 46 (rules t n s).2).p : Int))) := by
  induction n with
  | zero => intro s hp hs hn; omega
  | succ n ih =>
    intro s hp hs hn K
    have hl : look t s = byteAt t s.p := by unfold look; rw [hs]; rfl
    by_cases h : look t s = 63
    · rw [rules_go t n s h]
      have hlt : s.p < t.size := look_pos t s (by omega)
      have hR := rds_rule t ⟨s.p + 1, s.f⟩ hlt
      have hRp := Sv_rule_p t ⟨s.p + 1, s.f⟩ hlt
      have hst : run t s.p (80 :: K) = run t (s.p + 1) ([67, 58, 120, 120, 120, 120] ++ (80 :: K)) := by
        rw [run_step t s.p hp, ← hl]; simp only [nxt]; simp [h]
      rw [hst]
      obtain ⟨r1, r2, r3⟩ := hR
      have r4 := r3 hs (80 :: K)
      simp only at r4 ⊢
      cases hf : (rule t ⟨s.p + 1, s.f⟩).2.f
      · rw [r4.1 hf]
        exact ih _ hRp.1 hf (by have := hRp.2; simp only at this; omega) K
      · rw [r4.2 hf, rules_keep t n _ hf]
        have hk : look t (rule t ⟨s.p + 1, s.f⟩).2 = -1 := by unfold look; rw [hf]; rfl
        have hnd : need t 46 (rule t ⟨s.p + 1, s.f⟩).2 = ⟨(rule t ⟨s.p + 1, s.f⟩).2.p, true⟩ := by unfold need; rw [hk, if_neg (by decide)]
        simp only
        rw [hnd]
        exact ⟨(fun h => by cases h), fun _ => rfl⟩
    · rw [rules_stop t _ s h]
      simp only
      rw [run_step t s.p hp, ← hl]
      simp only [nxt]
      unfold need
      by_cases h2 : look t s = 46
      · simp [h, h2, hs]
      · simp [h, h2, hs]

/-- THE TWO READINGS AGREE -/
theorem check_run (t : ByteArray) (hs : t.size ≤ 600) : check t = run t 0 [80] := by
  unfold check
  rw [if_neg (by omega)]
  have hR := rds_rules t (t.size + 1) ⟨0, false⟩ (Nat.zero_le _) rfl (by simp) []
  have hp1 : (need t 46 (rules t (t.size + 1) ⟨0, false⟩).2).p ≤ t.size := Sv_need_p t 46 _ (by omega) (Sv_rules_p t _ _ (Nat.zero_le _))
  have hW := rds_word t _ hp1
  obtain ⟨w1, w2, w3⟩ := hW
  have hpol : (policy t ⟨0, false⟩).2 = needEnd t (word t (need t 46 (rules t (t.size + 1) ⟨0, false⟩).2)).2 := rfl
  rw [hpol]
  simp only at w1 w2 w3 hR
  have hlt : ∀ s : St, (needEnd t s).p = s.p ∧ ((needEnd t s).f = true ↔ s.p < t.size ∨ s.f = true) := by
    intro s; unfold needEnd; split
    · simp [*]
    · exact ⟨rfl, by simp [*]⟩
  cases hf : (need t 46 (rules t (t.size + 1) ⟨0, false⟩).2).f
  · rw [hR.1 hf]
    have w4 := w3 hf []
    cases hg : (word t (need t 46 (rules t (t.size + 1) ⟨0, false⟩).2)).2.f
    · rw [w4.1 hg, run_nil t _ w1, (hlt _).1]
      by_cases h : (word t (need t 46 (rules t (t.size + 1) ⟨0, false⟩).2)).2.p < t.size
      · rw [if_pos ((hlt _).2.2 (Or.inl h)), if_pos h]
      · rw [if_neg (fun e => by rcases (hlt _).2.1 e with e | e; exact h e; (rw [hg] at e; cases e)), if_neg h]
    · rw [w4.2 hg, if_pos ((hlt _).2.2 (Or.inr hg)), (hlt _).1]
  · have w4 := w2 hf
    rw [hR.2 hf, if_pos ((hlt _).2.2 (Or.inr w4.1)), (hlt _).1, w4.2]
end Sv
end Go.Proofs.Ytldongbimhngfaa
