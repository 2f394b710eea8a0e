/- What policies say of records, as plain functions. -/
import Derived.Test.YtldongbimhngfaaSpec
namespace Go.Proofs.Ytldongbimhngfaa.Sv

/-- the word k of a record -/
def wordAt (r : ByteArray) (k : Int) : Int := byteAt r k.toNat + 256 * byteAt r (k.toNat + 1)
/-- the bits in both -/
def land (a b : Int) : Int := ((a.toNat &&& b.toNat : Nat) : Int)
def lss (h1 l1 h2 l2 : Int) : Bool := if h1 = h2 then decide (l1 < l2) else decide (h1 < h2)
/-- a comparison -/
def cmp (r : ByteArray) (x : Tm) : Bool :=
  if x.rel = 1 then lss (land (wordAt r (x.word + 2)) x.mh) (land (wordAt r x.word) x.ml) x.wh x.wl
  else if x.rel = 2 then lss x.wh x.wl (land (wordAt r (x.word + 2)) x.mh) (land (wordAt r x.word) x.ml)
  else (decide (land (wordAt r (x.word + 2)) x.mh = x.wh) && decide (land (wordAt r x.word) x.ml = x.wl))
def hd : List Bool → Bool
  | [] => false
  | b :: _ => b
/-- the conditions that terms spell, one behind the other: whether each holds -/
def ev (r : ByteArray) : List Tm → List Bool
  | [] => []
  | x :: rest =>
    if x.kind = 0 then true :: ev r rest
    else if x.kind = 1 then (!(hd (ev r rest))) :: (ev r rest).tail
    else if x.kind = 2 then (hd (ev r rest) && hd (ev r rest).tail) :: (ev r rest).tail.tail
    else if x.kind = 3 then (hd (ev r rest) || hd (ev r rest).tail) :: (ev r rest).tail.tail
    else cmp r x :: ev r rest
def holds (r : ByteArray) (ts : List Tm) : Bool := hd (ev r ts)
def verdict (r : ByteArray) (d : Int) : List (List Tm × Int) → Int
  | [] => d
  | x :: rest => if holds r x.1 then x.2 else verdict r d rest
/-- a term that may be evaluated -/
def TmOk (x : Tm) : Prop := 0 ≤ x.word ∧ x.word ≤ 16 ∧ 0 ≤ x.mh ∧ x.mh < 65536 ∧ 0 ≤ x.ml ∧ x.ml < 65536

/-- what Judge answers: the verdict, the error -/
def judge (t r : ByteArray) : Int × Int :=
  if 600 < t.size then (0, 1)
  else if (policy t ⟨0, false⟩).2.f = true then (0, 2)
  else if r.size = 20 then (verdict r (policy t ⟨0, false⟩).1.2 (policy t ⟨0, false⟩).1.1, 0)
  else (0, 9)
/-- what Check answers -/
def check (t : ByteArray) : Int × Int :=
  if 600 < t.size then (1, 0)
  else if (policy t ⟨0, false⟩).2.f = true then (2, (policy t ⟨0, false⟩).2.p)
  else (0, 0)

end Go.Proofs.Ytldongbimhngfaa.Sv
