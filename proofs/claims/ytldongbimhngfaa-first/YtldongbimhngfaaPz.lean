/- What is made can be read: plain mathematics. -/
import Derived.Test.YtldongbimhngfaaMk
import Derived.Test.YtldongbimhngfaaRp
namespace Go.Proofs.Ytldongbimhngfaa
set_option linter.unusedVariables false
set_option linter.unusedSimpArgs false

/-- the bytes c stand in the text from p on -/
def At (t : ByteArray) (p : Nat) (c : List UInt8) : Prop := ∀ j (hj : j < c.length), Sv.byteAt t (p + j) = (c[j].toNat : Int)
theorem At.left {t : ByteArray} {p : Nat} {a b : List UInt8} (h : At t p (a ++ b)) : At t p a := by
  intro j hj
  have := h j (by simp; omega)
  rw [this, List.getElem_append_left hj]
theorem At.right {t : ByteArray} {p : Nat} {a b : List UInt8} (h : At t p (a ++ b)) : At t (p + a.length) b := by
  intro j hj
  have := h (a.length + j) (by simp; omega)
  rw [← Nat.add_assoc] at this
  rw [this, List.getElem_append_right (by omega)]
  simp
theorem At.append {t : ByteArray} {p : Nat} {a b : List UInt8} (h1 : At t p a) (h2 : At t (p + a.length) b) : At t p (a ++ b) := by
  intro j hj
  by_cases hja : j < a.length
  · rw [h1 j hja, List.getElem_append_left hja]
  · have := h2 (j - a.length) (by simp at hj; omega)
    rw [List.getElem_append_right (by omega), ← this]
    congr 1; omega
theorem At.head {t : ByteArray} {p : Nat} {e : UInt8} {c : List UInt8} (h : At t p (e :: c)) : Sv.byteAt t p = (e.toNat : Int) := by
  have := h 0 (by simp); simpa using this
theorem At.tail {t : ByteArray} {p : Nat} {e : UInt8} {c : List UInt8} (h : At t p (e :: c)) : At t (p + 1) c := by
  have : At t p ([e] ++ c) := h
  exact this.right
theorem At.lt {t : ByteArray} {p : Nat} {e : UInt8} {c : List UInt8} (h : At t p (e :: c)) : p < t.size := by
  apply Sv.lt_of_byteAt; rw [h.head]; omega
theorem At.le {t : ByteArray} {p : Nat} {c : List UInt8} (h : At t p c) (hc : c ≠ []) : p + c.length ≤ t.size := by
  have hl : 0 < c.length := List.length_pos_iff.2 hc
  have := h (c.length - 1) (by omega)
  have h2 : p + (c.length - 1) < t.size := by apply Sv.lt_of_byteAt; rw [this]; omega
  omega
theorem At.le' {t : ByteArray} {p : Nat} {c : List UInt8} (h : At t p c) (hp : p ≤ t.size) : p + c.length ≤ t.size := by
  by_cases hc : c = []
  · subst hc; simpa using hp
  · exact h.le hc

theorem hexC_val (d : Nat) (hd : d < 16) : ((hexC d).toNat : Int) = if d < 10 then (d : Int) + 48 else (d : Int) + 87 := by
  have : d = 0 ∨ d = 1 ∨ d = 2 ∨ d = 3 ∨ d = 4 ∨ d = 5 ∨ d = 6 ∨ d = 7 ∨ d = 8 ∨ d = 9 ∨ d = 10 ∨ d = 11 ∨ d = 12 ∨ d = 13 ∨ d = 14 ∨ d = 15 := by omega
  rcases this with rfl | rfl | rfl | rfl | rfl | rfl | rfl | rfl | rfl | rfl | rfl | rfl | rfl | rfl | rfl | rfl <;> rfl
theorem digit_at {t : ByteArray} {p d : Nat} (hd : d < 16) (h : Sv.byteAt t p = ((hexC d).toNat : Int)) : Sv.digit t ⟨p, false⟩ = ((d : Int), ⟨p + 1, false⟩) := by
  have hl : Sv.look t ⟨p, false⟩ = Sv.byteAt t p := rfl
  rw [hexC_val d hd] at h
  unfold Sv.digit
  rw [hl, h]
  by_cases h10 : d < 10
  · rw [if_pos h10, if_pos (by omega)]; simp
  · rw [if_neg h10, if_neg (by omega), if_pos (by omega)]
    simp; omega
theorem word_at {t : ByteArray} {p v : Nat} (hv : v < 65536) (h : At t p (hex4 v)) : Sv.word t ⟨p, false⟩ = ((v : Int), ⟨p + 4, false⟩) := by
  have e : hex4 v = [hexC (v / 4096 % 16), hexC (v / 256 % 16), hexC (v / 16 % 16), hexC (v % 16)] := by simp [hex4, hexTo]
  rw [e] at h
  have h0 := digit_at (by omega) h.head
  have h1 := digit_at (by omega) h.tail.head
  have h2 := digit_at (by omega) h.tail.tail.head
  have h3 := digit_at (by omega) h.tail.tail.tail.head
  unfold Sv.word
  simp only [Sv.wordTo]
  rw [h0]; simp only
  rw [h1]; simp only
  rw [h2]; simp only
  rw [h3]
  congr 1
  omega
def RelB (c : UInt8) : Prop := c = 61 ∨ c = 60 ∨ c = 62
theorem relation_at {t : ByteArray} {p : Nat} {c : UInt8} (hc : RelB c) (h : Sv.byteAt t p = (c.toNat : Int)) : Sv.relation t ⟨p, false⟩ = (Sv.relCode c.toNat, ⟨p + 1, false⟩) := by
  have hl : Sv.look t ⟨p, false⟩ = Sv.byteAt t p := rfl
  unfold Sv.relation
  rw [hl, h]
  rcases hc with rfl | rfl | rfl <;> rfl
theorem value_at {t : ByteArray} {p a b : Nat} (ha : a < 65536) (hb : b < 65536) (h : At t p (hex4 a ++ hex4 b)) : Sv.value t ⟨p, false⟩ = (((a : Int), (b : Int)), ⟨p + 8, false⟩) := by
  have h1 := word_at ha h.left
  have h2 := word_at hb h.right
  rw [hex4_len] at h2
  unfold Sv.value
  rw [h1]; simp only
  rw [h2]
theorem short_at {t : ByteArray} {p v : Nat} {c : UInt8} (k : Int) (hc : RelB c) (hv : v < 65536) (h : At t p (c :: hex4 v)) :
    Sv.short t k ⟨p, false⟩ = (⟨4, k, 0, 65535, Sv.relCode c.toNat, 0, v⟩, ⟨p + 5, false⟩) := by
  unfold Sv.short
  rw [relation_at hc h.head]; simp only
  rw [word_at hv h.tail]
theorem index_at {t : ByteArray} {p : Nat} {d : UInt8} (h0 : 48 ≤ (d.toNat : Int)) (h1 : (d.toNat : Int) ≤ 51) (h : Sv.byteAt t p = (d.toNat : Int)) : Sv.index t ⟨p, false⟩ = ((d.toNat : Int) - 48, ⟨p + 1, false⟩) := by
  have hl : Sv.look t ⟨p, false⟩ = Sv.byteAt t p := rfl
  unfold Sv.index
  rw [hl, h, if_pos ⟨h0, h1⟩]
theorem argRel_at {t : ByteArray} {p a b : Nat} {d c : UInt8} (h0 : 48 ≤ (d.toNat : Int)) (h1 : (d.toNat : Int) ≤ 51) (hc : RelB c) (ha : a < 65536) (hb : b < 65536) (h : At t p (d :: c :: (hex4 a ++ hex4 b))) :
    Sv.argument t ⟨p, false⟩ = (⟨4, 4 + 4 * ((d.toNat : Int) - 48), 65535, 65535, Sv.relCode c.toNat, a, b⟩, ⟨p + 10, false⟩) := by
  have hi := index_at h0 h1 h.head
  have hr := relation_at hc h.tail.head
  have hv := value_at ha hb h.tail.tail
  have hl : Sv.look t ⟨p + 1, false⟩ = (c.toNat : Int) := h.tail.head
  unfold Sv.argument
  rw [hi]; simp only
  rw [hl, if_neg (by rcases hc with rfl | rfl | rfl <;> decide), hr]; simp only
  rw [hv]
set_option maxRecDepth 100000 in
theorem argMask_at {t : ByteArray} {p a b x y : Nat} {d : UInt8} (h0 : 48 ≤ (d.toNat : Int)) (h1 : (d.toNat : Int) ≤ 51) (ha : a < 65536) (hb : b < 65536) (hx : x < 65536) (hy : y < 65536) (h : At t p (d :: 38 :: ((hex4 a ++ hex4 b) ++ (61 :: (hex4 x ++ hex4 y))))) :
    Sv.argument t ⟨p, false⟩ = (⟨4, 4 + 4 * ((d.toNat : Int) - 48), a, b, 0, x, y⟩, ⟨p + 19, false⟩) := by
  have hi := index_at h0 h1 h.head
  have hv := value_at ha hb h.tail.tail.left
  have hl : Sv.look t ⟨p + 1, false⟩ = 38 := h.tail.head
  have h2 := h.tail.tail.right
  rw [List.length_append, hex4_len, hex4_len] at h2
  have hn : Sv.need t 61 ⟨p + 1 + 1 + 8, false⟩ = ⟨p + 1 + 1 + 8 + 1, false⟩ := by
    have hl2 : Sv.look t ⟨p + 1 + 1 + 8, false⟩ = 61 := h2.head
    unfold Sv.need; rw [if_pos hl2]
  have hv2 := value_at hx hy h2.tail
  unfold Sv.argument
  rw [hi]; simp only
  rw [hl, if_pos rfl, hv]; simp only
  rw [hn, hv2]

/-- a term of the text a: what it reads as -/
def TermReads (a : List UInt8) (x : Sv.Tm) : Prop := ∀ t p, At t p a → Sv.term t ⟨p, false⟩ = (x, ⟨p + a.length, false⟩)
theorem term_T : TermReads [84] (Sv.tm0 0) := by
  intro t p h
  have hl : Sv.look t ⟨p, false⟩ = 84 := h.head
  unfold Sv.term; rw [if_pos hl]; rfl
theorem term_N : TermReads [33] (Sv.tm0 1) := by
  intro t p h
  have hl : Sv.look t ⟨p, false⟩ = 33 := h.head
  unfold Sv.term; rw [hl]; rfl
theorem term_A : TermReads [38] (Sv.tm0 2) := by
  intro t p h
  have hl : Sv.look t ⟨p, false⟩ = 38 := h.head
  unfold Sv.term; rw [hl]; rfl
theorem term_O : TermReads [124] (Sv.tm0 3) := by
  intro t p h
  have hl : Sv.look t ⟨p, false⟩ = 124 := h.head
  unfold Sv.term; rw [hl]; rfl
theorem term_n {v : Nat} {c : UInt8} (hc : RelB c) (hv : v < 65536) : TermReads (110 :: c :: hex4 v) ⟨4, 0, 0, 65535, Sv.relCode c.toNat, 0, v⟩ := by
  intro t p h
  have hl : Sv.look t ⟨p, false⟩ = 110 := h.head
  have hs := short_at 0 hc hv h.tail
  unfold Sv.term
  rw [hl]
  simp only [if_neg (by decide : ¬ (110 : Int) = 84), if_neg (by decide : ¬ (110 : Int) = 33), if_neg (by decide : ¬ (110 : Int) = 38), if_neg (by decide : ¬ (110 : Int) = 124), if_true]
  rw [hs]
  simp [hex4_len]
theorem term_h {v : Nat} {c : UInt8} (hc : RelB c) (hv : v < 65536) : TermReads (104 :: c :: hex4 v) ⟨4, 2, 0, 65535, Sv.relCode c.toNat, 0, v⟩ := by
  intro t p h
  have hl : Sv.look t ⟨p, false⟩ = 104 := h.head
  have hs := short_at 2 hc hv h.tail
  unfold Sv.term
  rw [hl]
  simp only [if_neg (by decide : ¬ (104 : Int) = 84), if_neg (by decide : ¬ (104 : Int) = 33), if_neg (by decide : ¬ (104 : Int) = 38), if_neg (by decide : ¬ (104 : Int) = 124), if_neg (by decide : ¬ (104 : Int) = 110), if_true]
  rw [hs]
  simp [hex4_len]
theorem term_arg {rest : List UInt8} {x : Sv.Tm} (h : ∀ t p, At t p rest → Sv.argument t ⟨p, false⟩ = (x, ⟨p + rest.length, false⟩)) : TermReads (97 :: rest) x := by
  intro t p hA
  have hl : Sv.look t ⟨p, false⟩ = 97 := hA.head
  have hs := h t (p + 1) hA.tail
  unfold Sv.term
  rw [hl]
  simp only [if_neg (by decide : ¬ (97 : Int) = 84), if_neg (by decide : ¬ (97 : Int) = 33), if_neg (by decide : ¬ (97 : Int) = 38), if_neg (by decide : ¬ (97 : Int) = 124), if_neg (by decide : ¬ (97 : Int) = 110), if_neg (by decide : ¬ (97 : Int) = 104), if_true]
  rw [hs]
  simp; omega
theorem term_rel {a b : Nat} {d c : UInt8} (h0 : 48 ≤ (d.toNat : Int)) (h1 : (d.toNat : Int) ≤ 51) (hc : RelB c) (ha : a < 65536) (hb : b < 65536) :
    TermReads (97 :: d :: c :: (hex4 a ++ hex4 b)) ⟨4, 4 + 4 * ((d.toNat : Int) - 48), 65535, 65535, Sv.relCode c.toNat, a, b⟩ := by
  refine term_arg fun t p h => ?_
  rw [argRel_at h0 h1 hc ha hb h]
  simp [hex4_len]
theorem term_mask {a b x y : Nat} {d : UInt8} (h0 : 48 ≤ (d.toNat : Int)) (h1 : (d.toNat : Int) ≤ 51) (ha : a < 65536) (hb : b < 65536) (hx : x < 65536) (hy : y < 65536) :
    TermReads (97 :: d :: 38 :: ((hex4 a ++ hex4 b) ++ (61 :: (hex4 x ++ hex4 y)))) ⟨4, 4 + 4 * ((d.toNat : Int) - 48), a, b, 0, x, y⟩ := by
  refine term_arg fun t p h => ?_
  rw [argMask_at h0 h1 ha hb hx hy h]
  simp [hex4_len]

/-- c reads as m conditions, of the terms ts -/
def CondReads (c : List UInt8) (ts : List Sv.Tm) (m : Nat) : Prop := ∀ t p n, At t p c → p ≤ t.size → t.size + 1 ≤ p + n → Sv.cond t n m ⟨p, false⟩ = (ts, ⟨p + c.length, false⟩)
theorem CondReads.nil : CondReads [] [] 0 := by
  intro t p n _ _ _
  exact cond_stop t n _ _ (Or.inl (by simp))
theorem CondReads.cons {a c : List UInt8} {x : Sv.Tm} {ts : List Sv.Tm} {m k : Nat} (ha : TermReads a x) (hne : a ≠ []) (hk : Sv.parts x.kind = k) (h : CondReads c ts (m + k)) : CondReads (a ++ c) (x :: ts) (m + 1) := by
  intro t p n hA hp hn
  obtain ⟨n', rfl⟩ : ∃ n', n = n' + 1 := ⟨n - 1, by omega⟩
  have hlen : 0 < a.length := List.length_pos_iff.2 hne
  have hle := hA.left.le hne
  rw [cond_go t n' _ _ (by omega) rfl, ha t p hA.left]
  simp only
  have e : ((m + 1 : Nat) : Int) - 1 + Sv.parts x.kind = ((m + k : Nat) : Int) := by rw [hk]; omega
  rw [e, h t (p + a.length) n' hA.right hle (by omega)]
  simp [Nat.add_assoc]

/-- what m conditions say, whatever stands behind them -/
def EvOf (ts : List Sv.Tm) (m : Nat) (v : ByteArray → List Bool) : Prop := ∀ r, (v r).length = m ∧ ∀ rest, Sv.ev r (ts ++ rest) = v r ++ Sv.ev r rest
theorem EvOf.nil : EvOf [] 0 (fun _ => []) := fun r => ⟨rfl, fun _ => rfl⟩
theorem EvOf.tt {ts : List Sv.Tm} {m : Nat} {v : ByteArray → List Bool} (h : EvOf ts m v) : EvOf (Sv.tm0 0 :: ts) (m + 1) (fun r => true :: v r) := by
  intro r
  obtain ⟨h1, h2⟩ := h r
  refine ⟨by simp [h1], fun rest => ?_⟩
  show true :: Sv.ev r (ts ++ rest) = _
  rw [h2]; rfl
theorem EvOf.not {ts : List Sv.Tm} {m : Nat} {v : ByteArray → List Bool} (h : EvOf ts (m + 1) v) : EvOf (Sv.tm0 1 :: ts) (m + 1) (fun r => (!(Sv.hd (v r))) :: (v r).tail) := by
  intro r
  obtain ⟨h1, h2⟩ := h r
  refine ⟨by simp [h1], fun rest => ?_⟩
  show (!(Sv.hd (Sv.ev r (ts ++ rest)))) :: (Sv.ev r (ts ++ rest)).tail = _
  rw [h2]
  match hv : v r, h1 with
  | b :: l, _ => simp only [hv]; rfl
theorem EvOf.and {ts : List Sv.Tm} {m : Nat} {v : ByteArray → List Bool} (h : EvOf ts (m + 2) v) : EvOf (Sv.tm0 2 :: ts) (m + 1) (fun r => (Sv.hd (v r) && Sv.hd (v r).tail) :: (v r).tail.tail) := by
  intro r
  obtain ⟨h1, h2⟩ := h r
  refine ⟨by simp [h1], fun rest => ?_⟩
  show (Sv.hd (Sv.ev r (ts ++ rest)) && Sv.hd (Sv.ev r (ts ++ rest)).tail) :: (Sv.ev r (ts ++ rest)).tail.tail = _
  rw [h2]
  match hv : v r, h1 with
  | b :: c :: l, _ => simp only [hv]; rfl
theorem EvOf.or {ts : List Sv.Tm} {m : Nat} {v : ByteArray → List Bool} (h : EvOf ts (m + 2) v) : EvOf (Sv.tm0 3 :: ts) (m + 1) (fun r => (Sv.hd (v r) || Sv.hd (v r).tail) :: (v r).tail.tail) := by
  intro r
  obtain ⟨h1, h2⟩ := h r
  refine ⟨by simp [h1], fun rest => ?_⟩
  show (Sv.hd (Sv.ev r (ts ++ rest)) || Sv.hd (Sv.ev r (ts ++ rest)).tail) :: (Sv.ev r (ts ++ rest)).tail.tail = _
  rw [h2]
  match hv : v r, h1 with
  | b :: c :: l, _ => simp only [hv]; rfl
theorem EvOf.cmp {ts : List Sv.Tm} {m : Nat} {v : ByteArray → List Bool} {x : Sv.Tm} (hx : x.kind = 4) (h : EvOf ts m v) : EvOf (x :: ts) (m + 1) (fun r => Sv.cmp r x :: v r) := by
  intro r
  obtain ⟨h1, h2⟩ := h r
  refine ⟨by simp [h1], fun rest => ?_⟩
  have : Sv.ev r (x :: (ts ++ rest)) = Sv.cmp r x :: Sv.ev r (ts ++ rest) := by
    rw [Sv.ev, hx]; simp
  rw [List.cons_append, this, h2]; rfl

theorem der_cons {n : Nat} {e : UInt8} {f text : List UInt8} (h : Der n (e :: f) text) : ∃ n1 a more b, n = n1 + 1 ∧ StepOk false e a more ∧ text = a ++ b ∧ Der n1 (more ++ f) b := by
  cases n with
  | zero => exact absurd h.1 (by simp)
  | succ n =>
    obtain ⟨e', f', a, more, b, h1, h2, h3, h4⟩ := h
    simp at h1
    obtain ⟨rfl, rfl⟩ := h1
    exact ⟨n, a, more, b, rfl, h2, h3, h4⟩
theorem der_x {n : Nat} {f text : List UInt8} (h : Der n (120 :: f) text) : ∃ n1 v b, n = n1 + 1 ∧ v < 65536 ∧ text = hex4 v ++ b ∧ Der n1 f b := by
  obtain ⟨n1, a, more, b, h1, h2, h3, h4⟩ := der_cons h
  simp [StepOk] at h2
  obtain ⟨⟨v, hv, rfl⟩, rfl⟩ := h2
  exact ⟨n1, v, b, h1, hv, h3, h4⟩
theorem der_r {n : Nat} {f text : List UInt8} (h : Der n (114 :: f) text) : ∃ n1 c b, n = n1 + 1 ∧ RelB c ∧ text = c :: b ∧ Der n1 f b := by
  obtain ⟨n1, a, more, b, h1, h2, h3, h4⟩ := der_cons h
  simp [StepOk] at h2
  obtain ⟨h2, rfl⟩ := h2
  rcases h2 with rfl | rfl | rfl
  · exact ⟨n1, 61, b, h1, by simp [RelB], h3, h4⟩
  · exact ⟨n1, 60, b, h1, by simp [RelB], h3, h4⟩
  · exact ⟨n1, 62, b, h1, by simp [RelB], h3, h4⟩
theorem der_D {n : Nat} {f text : List UInt8} (h : Der n (68 :: f) text) : ∃ n1 d b, n = n1 + 1 ∧ 48 ≤ ((d : UInt8).toNat : Int) ∧ (d.toNat : Int) ≤ 51 ∧ text = d :: b ∧ Der n1 f b := by
  obtain ⟨n1, a, more, b, h1, h2, h3, h4⟩ := der_cons h
  simp [StepOk] at h2
  obtain ⟨h2, rfl⟩ := h2
  rcases h2 with rfl | rfl | rfl | rfl
  · exact ⟨n1, 48, b, h1, by decide, by decide, h3, h4⟩
  · exact ⟨n1, 49, b, h1, by decide, by decide, h3, h4⟩
  · exact ⟨n1, 50, b, h1, by decide, by decide, h3, h4⟩
  · exact ⟨n1, 51, b, h1, by decide, by decide, h3, h4⟩
theorem der_lit {n : Nat} {e : UInt8} {f text : List UInt8} (he : e = 58 ∨ e = 61) (h : Der n (e :: f) text) : ∃ n1 b, n = n1 + 1 ∧ text = e :: b ∧ Der n1 f b := by
  obtain ⟨n1, a, more, b, h1, h2, h3, h4⟩ := der_cons h
  rcases he with rfl | rfl
  · simp [StepOk] at h2; obtain ⟨rfl, rfl⟩ := h2; exact ⟨n1, b, h1, h3, h4⟩
  · simp [StepOk] at h2; obtain ⟨rfl, rfl⟩ := h2; exact ⟨n1, b, h1, h3, h4⟩

/-- what is made of m conditions reads as m conditions -/
theorem der_cond (N : Nat) : ∀ (n m : Nat) (f text : List UInt8), n ≤ N → Der n (List.replicate m 67 ++ f) text →
    ∃ ts c rest n' v, n' ≤ n ∧ text = c ++ rest ∧ Der n' f rest ∧ CondReads c ts m ∧ EvOf ts m v := by
  induction N with
  | zero =>
    intro n m f text hn h
    cases m with
    | zero => exact ⟨[], [], text, n, _, Nat.le_refl _, rfl, h, CondReads.nil, EvOf.nil⟩
    | succ m =>
      obtain ⟨n1, _, _, _, h1, _⟩ := der_cons h
      omega
  | succ N ih =>
    intro n m f text hn h
    cases m with
    | zero => exact ⟨[], [], text, n, _, Nat.le_refl _, rfl, h, CondReads.nil, EvOf.nil⟩
    | succ m =>
      obtain ⟨n1, a, more, b, rfl, h2, rfl, h4⟩ := der_cons h
      simp [StepOk] at h2
      rcases h2 with ⟨rfl, rfl⟩ | ⟨rfl, rfl⟩ | ⟨rfl, rfl⟩ | ⟨rfl, rfl⟩ | ⟨rfl, rfl⟩ | ⟨rfl, rfl⟩ | ⟨rfl, rfl⟩
      · obtain ⟨ts, c, rest, n', v, g1, rfl, g3, g4, g5⟩ := ih n1 m f b (by omega) h4
        exact ⟨_, [84] ++ c, rest, n', _, by omega, by simp, g3, CondReads.cons (k := 0) term_T (by simp) rfl g4, EvOf.tt g5⟩
      · obtain ⟨ts, c, rest, n', v, g1, rfl, g3, g4, g5⟩ := ih n1 (m + 1) f b (by omega) h4
        exact ⟨_, [33] ++ c, rest, n', _, by omega, by simp, g3, CondReads.cons (k := 1) term_N (by simp) rfl g4, EvOf.not g5⟩
      · obtain ⟨ts, c, rest, n', v, g1, rfl, g3, g4, g5⟩ := ih n1 (m + 2) f b (by omega) h4
        exact ⟨_, [38] ++ c, rest, n', _, by omega, by simp, g3, CondReads.cons (k := 2) term_A (by simp) rfl g4, EvOf.and g5⟩
      · obtain ⟨ts, c, rest, n', v, g1, rfl, g3, g4, g5⟩ := ih n1 (m + 2) f b (by omega) h4
        exact ⟨_, [124] ++ c, rest, n', _, by omega, by simp, g3, CondReads.cons (k := 2) term_O (by simp) rfl g4, EvOf.or g5⟩
      · obtain ⟨n2, r, b2, rfl, hr, rfl, h5⟩ := der_r h4
        obtain ⟨n3, x, b3, rfl, hx, rfl, h6⟩ := der_x h5
        obtain ⟨ts, c, rest, n', v, g1, rfl, g3, g4, g5⟩ := ih n3 m f b3 (by omega) h6
        exact ⟨_, (110 :: r :: hex4 x) ++ c, rest, n', _, by omega, by simp, g3, CondReads.cons (k := 0) (term_n hr hx) (by simp) rfl g4, EvOf.cmp rfl g5⟩
      · obtain ⟨n2, r, b2, rfl, hr, rfl, h5⟩ := der_r h4
        obtain ⟨n3, x, b3, rfl, hx, rfl, h6⟩ := der_x h5
        obtain ⟨ts, c, rest, n', v, g1, rfl, g3, g4, g5⟩ := ih n3 m f b3 (by omega) h6
        exact ⟨_, (104 :: r :: hex4 x) ++ c, rest, n', _, by omega, by simp, g3, CondReads.cons (k := 0) (term_h hr hx) (by simp) rfl g4, EvOf.cmp rfl g5⟩
      · obtain ⟨n2, d, b2, rfl, d0, d1, rfl, h5⟩ := der_D h4
        obtain ⟨n3, a3, more3, b3, rfl, h2, rfl, h6⟩ := der_cons h5
        simp [StepOk] at h2
        rcases h2 with ⟨hr, rfl⟩ | ⟨rfl, rfl⟩
        · obtain ⟨r, rfl, hrel⟩ : ∃ r, a3 = [r] ∧ RelB r := by
            rcases hr with rfl | rfl | rfl
            · exact ⟨61, rfl, by simp [RelB]⟩
            · exact ⟨60, rfl, by simp [RelB]⟩
            · exact ⟨62, rfl, by simp [RelB]⟩
          obtain ⟨n4, x, b4, rfl, hx, rfl, h7⟩ := der_x h6
          obtain ⟨n5, y, b5, rfl, hy, rfl, h8⟩ := der_x h7
          obtain ⟨ts, c, rest, n', v, g1, rfl, g3, g4, g5⟩ := ih n5 m f b5 (by omega) h8
          exact ⟨_, (97 :: d :: r :: (hex4 x ++ hex4 y)) ++ c, rest, n', _, by omega, by simp, g3, CondReads.cons (k := 0) (term_rel d0 d1 hrel hx hy) (by simp) rfl g4, EvOf.cmp rfl g5⟩
        · obtain ⟨n4, x, b4, rfl, hx, rfl, h7⟩ := der_x h6
          obtain ⟨n5, y, b5, rfl, hy, rfl, h8⟩ := der_x h7
          obtain ⟨n6, b6, rfl, rfl, h9⟩ := der_lit (Or.inr rfl) h8
          obtain ⟨n7, x2, b7, rfl, hx2, rfl, h10⟩ := der_x h9
          obtain ⟨n8, y2, b8, rfl, hy2, rfl, h11⟩ := der_x h10
          obtain ⟨ts, c, rest, n', v, g1, rfl, g3, g4, g5⟩ := ih n8 m f b8 (by omega) h11
          exact ⟨_, (97 :: d :: 38 :: ((hex4 x ++ hex4 y) ++ (61 :: (hex4 x2 ++ hex4 y2)))) ++ c, rest, n', _, by omega, by simp, g3, CondReads.cons (k := 0) (term_mask d0 d1 hx hy hx2 hy2) (by simp) rfl g4, EvOf.cmp rfl g5⟩
end Go.Proofs.Ytldongbimhngfaa
