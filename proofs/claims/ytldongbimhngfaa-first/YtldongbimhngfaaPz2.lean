/- Policies that are made: what Judge says of them. -/
import Derived.Test.YtldongbimhngfaaPz
namespace Go.Proofs.Ytldongbimhngfaa
set_option linter.unusedVariables false
set_option linter.unusedSimpArgs false

/-- p, to the text's end, reads as rules R and the default d -/
def PolReads (p : List UInt8) (R : List (List Sv.Tm × Int)) (d : Int) : Prop := ∀ t q n, At t q p → q + p.length = t.size → t.size + 1 ≤ q + n →
  (Sv.rules t n ⟨q, false⟩).1 = R ∧ Sv.word t (Sv.need t 46 (Sv.rules t n ⟨q, false⟩).2) = (d, ⟨t.size, false⟩)

theorem pol_stop {v : Nat} (hv : v < 65536) : PolReads (46 :: hex4 v) [] v := by
  intro t q n hA hq hn
  have hl : Sv.look t ⟨q, false⟩ = 46 := hA.head
  rw [rules_stop t n ⟨q, false⟩ (by rw [hl]; decide)]
  refine ⟨rfl, ?_⟩
  have hnd : Sv.need t 46 ⟨q, false⟩ = ⟨q + 1, false⟩ := by unfold Sv.need; rw [if_pos hl]
  simp only
  rw [hnd, word_at hv hA.tail]
  simp [hex4_len] at hq
  rw [← hq]
theorem pol_cons {c p : List UInt8} {ts : List Sv.Tm} {v : Nat} {R : List (List Sv.Tm × Int)} {d : Int} (hc : CondReads c ts 1) (hv : v < 65536) (hp : PolReads p R d) :
    PolReads ([63] ++ (c ++ ([58] ++ (hex4 v ++ p)))) ((ts, (v : Int)) :: R) d := by
  intro t q n hA hq hn
  have hl : Sv.look t ⟨q, false⟩ = 63 := hA.left.head
  have hlt := hA.left.lt
  obtain ⟨n', rfl⟩ : ∃ n', n = n' + 1 := ⟨n - 1, by omega⟩
  have h1 := hA.right
  have h2 := h1.right
  have h3 := h2.right
  have h4 := h3.right
  simp only [List.length_cons, List.length_nil] at h1 h2 h3 h4
  rw [hex4_len] at h4
  have hC : Sv.condition t ⟨q + 1, false⟩ = (ts, ⟨q + 1 + c.length, false⟩) := hc t (q + 1) (t.size + 1) h1.left hlt (by omega)
  have hN : Sv.need t 58 ⟨q + 1 + c.length, false⟩ = ⟨q + 1 + c.length + 1, false⟩ := by
    have hl2 : Sv.look t ⟨q + 1 + c.length, false⟩ = 58 := h2.left.head
    unfold Sv.need; rw [if_pos hl2]
  have hW := word_at hv h3.left
  have hRu : Sv.rule t ⟨q + 1, false⟩ = ((ts, (v : Int)), ⟨q + 1 + c.length + 1 + 4, false⟩) := by
    unfold Sv.rule
    rw [hC]; simp only
    rw [hN, hW]
  rw [rules_go t n' ⟨q, false⟩ hl]
  simp only
  rw [hRu]
  simp only
  have hq2 : q + 1 + c.length + 1 + 4 + p.length = t.size := by simp [hex4_len] at hq; omega
  obtain ⟨g1, g2⟩ := hp t (q + 1 + c.length + 1 + 4) n' h4 hq2 (by omega)
  exact ⟨by rw [g1], g2⟩
theorem der_pol (N : Nat) : ∀ (n : Nat) (text : List UInt8), n ≤ N → Der n [80] text → ∃ R d, PolReads text R d := by
  induction N with
  | zero =>
    intro n text hn h
    obtain ⟨n1, _, _, _, h1, _⟩ := der_cons h
    omega
  | succ N ih =>
    intro n text hn h
    obtain ⟨n1, a, more, b, rfl, h2, rfl, h4⟩ := der_cons h
    simp [StepOk] at h2
    rcases h2 with ⟨rfl, rfl⟩ | ⟨rfl, rfl⟩
    · obtain ⟨n2, v, b2, rfl, hv, rfl, h5⟩ := der_x h4
      have hb : b2 = [] := by
        cases n2 with
        | zero => exact h5.2
        | succ n2 => obtain ⟨_, _, _, _, _, hh, _⟩ := h5; simp at hh
      subst hb
      exact ⟨[], v, by rw [List.append_nil]; exact pol_stop hv⟩
    · obtain ⟨ts, c, rest, n', v, g1, rfl, g3, g4, g5⟩ := der_cond n1 n1 1 [58, 120, 80] b (Nat.le_refl _) h4
      obtain ⟨n3, b3, rfl, rfl, h5⟩ := der_lit (Or.inl rfl) g3
      obtain ⟨n4, x, b4, rfl, hx, rfl, h6⟩ := der_x h5
      obtain ⟨R, d, hR⟩ := ih n4 b4 (by omega) h6
      exact ⟨_, d, pol_cons g4 hx hR⟩

theorem at_self (l : List UInt8) : At ⟨l.toArray⟩ 0 l := by
  intro j hj
  have hs : j < (⟨l.toArray⟩ : ByteArray).size := by show j < l.toArray.size; simpa using hj
  rw [Nat.zero_add, byteAt_in hs]
  rfl
theorem judge_of {p : List UInt8} {R : List (List Sv.Tm × Int)} {d : Int} {t r : ByteArray} (ht : t.data.toList = p) (h : PolReads p R d) (hl : t.size ≤ 600) (hr : r.size = 20) : Sv.judge t r = (Sv.verdict r d R, 0) := by
  have hsz : t.size = p.length := by rw [← ht]; exact Array.length_toList.symm
  have hA : At t 0 p := by
    have := at_self p
    have e : (⟨p.toArray⟩ : ByteArray) = t := by rw [← ht]
    rw [e] at this; exact this
  obtain ⟨g1, g2⟩ := h t 0 (t.size + 1) hA (by omega) (by omega)
  have hpol : Sv.policy t ⟨0, false⟩ = ((R, d), ⟨t.size, false⟩) := by
    show (((Sv.rules t (t.size + 1) ⟨0, false⟩).1, (Sv.word t (Sv.need t 46 (Sv.rules t (t.size + 1) ⟨0, false⟩).2)).1), Sv.needEnd t (Sv.word t (Sv.need t 46 (Sv.rules t (t.size + 1) ⟨0, false⟩).2)).2) = _
    rw [g1, g2]
    unfold Sv.needEnd
    simp
  unfold Sv.judge
  rw [if_neg (by omega), hpol]
  simp [hr]

/-- a condition alone: whether it holds -/
theorem judge_asked {c : List UInt8} {ts : List Sv.Tm} {t r : ByteArray} (hc : CondReads c ts 1) (ht : t.data.toList = [63] ++ (c ++ [58, 48, 48, 48, 49, 46, 48, 48, 48, 48])) (hl : t.size ≤ 600) (hr : r.size = 20) :
    Sv.judge t r = (if Sv.holds r ts = true then 1 else 0, 0) := by
  have h0 : PolReads (46 :: hex4 0) [] ((0 : Nat) : Int) := pol_stop (by omega)
  have h1 := pol_cons hc (by omega : 1 < 65536) h0
  have e : [63] ++ (c ++ ([58] ++ (hex4 1 ++ (46 :: hex4 0)))) = [63] ++ (c ++ [58, 48, 48, 48, 49, 46, 48, 48, 48, 48]) := rfl
  rw [e] at h1
  rw [judge_of ht h1 hl hr]
  simp [Sv.verdict]
/-- a rule ahead of a policy -/
theorem judge_first {c p : List UInt8} {ts : List Sv.Tm} {v : Nat} {R : List (List Sv.Tm × Int)} {d : Int} {t r : ByteArray} (hc : CondReads c ts 1) (hv : v < 65536) (hp : PolReads p R d)
    (ht : t.data.toList = [63] ++ (c ++ ([58] ++ (hex4 v ++ p)))) (hl : t.size ≤ 600) (hr : r.size = 20) : Sv.judge t r = (if Sv.holds r ts = true then (v : Int) else Sv.verdict r d R, 0) := by
  rw [judge_of ht (pol_cons hc hv hp) hl hr]
  simp [Sv.verdict]
theorem holds_of {ts : List Sv.Tm} {v : ByteArray → List Bool} (h : EvOf ts 1 v) (r : ByteArray) : v r = [Sv.holds r ts] := by
  obtain ⟨h1, h2⟩ := h r
  have := h2 []
  rw [List.append_nil] at this
  unfold Sv.holds
  rw [this]
  match hv : v r, h1 with
  | [b], _ => rfl
end Go.Proofs.Ytldongbimhngfaa
