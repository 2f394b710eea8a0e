/- The program's reading of policies, function by function, as plain functions (no program, no kit). -/
import Init
namespace Go.Proofs.Ytldongbimhngfaa.Sv

/-- the byte at i, or -1 -/
def byteAt (t : ByteArray) (i : Nat) : Int := if h : i < t.size then (t[i].toNat : Int) else -1

theorem byteAt_lt (t : ByteArray) (i : Nat) : byteAt t i < 256 := by
  unfold byteAt; split
  · have := t[i].toNat_lt; omega
  · omega
theorem byteAt_ge (t : ByteArray) (i : Nat) : -1 ≤ byteAt t i := by
  unfold byteAt; split <;> omega
theorem byteAt_out {t : ByteArray} {i : Nat} (h : t.size ≤ i) : byteAt t i = -1 := by
  unfold byteAt; rw [dif_neg (by omega)]
theorem lt_of_byteAt {t : ByteArray} {i : Nat} (h : 0 ≤ byteAt t i) : i < t.size := by
  unfold byteAt at h; split at h
  · assumption
  · omega

/-- where the reader stands, and whether it has failed -/
structure St where
  p : Nat
  f : Bool

def look (t : ByteArray) (s : St) : Int := if s.f then -1 else byteAt t s.p
def take (t : ByteArray) (b : Int) (s : St) : Bool × St := if look t s = b then (true, ⟨s.p + 1, s.f⟩) else (false, s)
def need (t : ByteArray) (b : Int) (s : St) : St := if look t s = b then ⟨s.p + 1, s.f⟩ else ⟨s.p, true⟩
def needEnd (t : ByteArray) (s : St) : St := if s.p < t.size then ⟨s.p, true⟩ else s
def digit (t : ByteArray) (s : St) : Int × St :=
  if 48 ≤ look t s ∧ look t s ≤ 57 then (look t s - 48, ⟨s.p + 1, s.f⟩)
  else if 97 ≤ look t s ∧ look t s ≤ 102 then (look t s - 97 + 10, ⟨s.p + 1, s.f⟩)
  else (0, ⟨s.p, true⟩)
def wordTo (t : ByteArray) (s : St) : Nat → Int × St
  | 0 => (0, s)
  | k + 1 => (16 * (wordTo t s k).1 + (digit t (wordTo t s k).2).1, (digit t (wordTo t s k).2).2)
def word (t : ByteArray) (s : St) : Int × St := wordTo t s 4
def value (t : ByteArray) (s : St) : (Int × Int) × St :=
  (((word t s).1, (word t (word t s).2).1), (word t (word t s).2).2)
def index (t : ByteArray) (s : St) : Int × St :=
  if 48 ≤ look t s ∧ look t s ≤ 51 then (look t s - 48, ⟨s.p + 1, s.f⟩) else (0, ⟨s.p, true⟩)
def relation (t : ByteArray) (s : St) : Int × St :=
  if look t s = 61 then (0, ⟨s.p + 1, s.f⟩) else if look t s = 60 then (1, ⟨s.p + 1, s.f⟩) else if look t s = 62 then (2, ⟨s.p + 1, s.f⟩) else (0, ⟨s.p, true⟩)

/-- a term: kind, word, mask (high, low), relation, want (high, low) -/
structure Tm where
  kind : Int
  word : Int
  mh : Int
  ml : Int
  rel : Int
  wh : Int
  wl : Int

def tm0 (k : Int) : Tm := ⟨k, 0, 0, 0, 0, 0, 0⟩
def short (t : ByteArray) (w : Int) (s : St) : Tm × St :=
  (⟨4, w, 0, 65535, (relation t s).1, 0, (word t (relation t s).2).1⟩, (word t (relation t s).2).2)
def argument (t : ByteArray) (s : St) : Tm × St :=
  if look t (index t s).2 = 38 then
    (⟨4, 4 + 4 * (index t s).1, (value t ⟨(index t s).2.p + 1, (index t s).2.f⟩).1.1, (value t ⟨(index t s).2.p + 1, (index t s).2.f⟩).1.2, 0,
      (value t (need t 61 (value t ⟨(index t s).2.p + 1, (index t s).2.f⟩).2)).1.1, (value t (need t 61 (value t ⟨(index t s).2.p + 1, (index t s).2.f⟩).2)).1.2⟩,
      (value t (need t 61 (value t ⟨(index t s).2.p + 1, (index t s).2.f⟩).2)).2)
  else
    (⟨4, 4 + 4 * (index t s).1, 65535, 65535, (relation t (index t s).2).1, (value t (relation t (index t s).2).2).1.1, (value t (relation t (index t s).2).2).1.2⟩,
      (value t (relation t (index t s).2).2).2)
def term (t : ByteArray) (s : St) : Tm × St :=
  if look t s = 84 then (tm0 0, ⟨s.p + 1, s.f⟩)
  else if look t s = 33 then (tm0 1, ⟨s.p + 1, s.f⟩)
  else if look t s = 38 then (tm0 2, ⟨s.p + 1, s.f⟩)
  else if look t s = 124 then (tm0 3, ⟨s.p + 1, s.f⟩)
  else if look t s = 110 then short t 0 ⟨s.p + 1, s.f⟩
  else if look t s = 104 then short t 2 ⟨s.p + 1, s.f⟩
  else if look t s = 97 then argument t ⟨s.p + 1, s.f⟩
  else (tm0 0, ⟨s.p, true⟩)
def parts (k : Int) : Int := if k = 1 then 1 else if k = 2 ∨ k = 3 then 2 else 0

/-- m conditions, one behind the other: their terms -/
def cond (t : ByteArray) : Nat → Int → St → List Tm × St
  | 0, _, s => ([], s)
  | n + 1, m, s =>
    if 0 < m ∧ s.f = false then
      ((term t s).1 :: (cond t n (m - 1 + parts (term t s).1.kind) (term t s).2).1, (cond t n (m - 1 + parts (term t s).1.kind) (term t s).2).2)
    else ([], s)
def condition (t : ByteArray) (s : St) : List Tm × St := cond t (t.size + 1) 1 s
/-- a rule: its terms, its verdict -/
def rule (t : ByteArray) (s : St) : (List Tm × Int) × St :=
  (((condition t s).1, (word t (need t 58 (condition t s).2)).1), (word t (need t 58 (condition t s).2)).2)
def rules (t : ByteArray) : Nat → St → List (List Tm × Int) × St
  | 0, s => ([], s)
  | n + 1, s =>
    if look t s = 63 then
      ((rule t ⟨s.p + 1, s.f⟩).1 :: (rules t n (rule t ⟨s.p + 1, s.f⟩).2).1, (rules t n (rule t ⟨s.p + 1, s.f⟩).2).2)
    else ([], s)
def ruleList (t : ByteArray) (s : St) : List (List Tm × Int) × St := rules t (t.size + 1) s
def policy (t : ByteArray) (s : St) : (List (List Tm × Int) × Int) × St :=
  (((ruleList t s).1, (word t (need t 46 (ruleList t s).2)).1), needEnd t (word t (need t 46 (ruleList t s).2)).2)

end Go.Proofs.Ytldongbimhngfaa.Sv
