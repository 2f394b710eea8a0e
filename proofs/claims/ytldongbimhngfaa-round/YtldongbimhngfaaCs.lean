/- Codes, as plain functions. -/
import Derived.Test.YtldongbimhngfaaEv
namespace Go.Proofs.Ytldongbimhngfaa.Sc
open Go.Proofs.Ytldongbimhngfaa.Sv (byteAt land wordAt)

/-- an instruction -/
structure In where
  op : Int
  t : Int
  f : Int
  k : Int
/-- the instruction i of a code -/
def inAt (c : ByteArray) (i : Nat) : In := ⟨byteAt c (5 * i), byteAt c (5 * i + 1), byteAt c (5 * i + 2), byteAt c (5 * i + 3) + 256 * byteAt c (5 * i + 4)⟩
def ins (c : ByteArray) : Nat → List In
  | 0 => []
  | n + 1 => ins c n ++ [inAt c n]
/-- what Decode answers: the error, the instructions -/
def decE (c : ByteArray) : Int := if 5120 < c.size then 1 else if c.size % 5 = 0 then 0 else 3
def decL (c : ByteArray) : List In := if decE c = 0 then ins c (c.size / 5) else []
/-- what Encode answers -/
def inOk (x : In) : Bool := decide (0 ≤ x.op ∧ x.op ≤ 255 ∧ 0 ≤ x.t ∧ x.t ≤ 255 ∧ 0 ≤ x.f ∧ x.f ≤ 255 ∧ 0 ≤ x.k ∧ x.k ≤ 65535)
def inB (x : In) : List UInt8 := [x.op.toNat.toUInt8, x.t.toNat.toUInt8, x.f.toNat.toUInt8, (x.k.toNat % 256).toUInt8, (x.k.toNat / 256).toUInt8]
def encE (l : List In) : Int := if 1024 < l.length then 1 else if l.all inOk = true then 0 else 6
def encB (l : List In) : List UInt8 := if encE l = 0 then l.flatMap inB else []

/-- soundness -/
def isTest (op : Int) : Bool := op == 11 || op == 12 || op == 13 || op == 14
def mayB (x : In) : Bool :=
  if 15 < x.t ∨ 15 < x.f then false
  else if x.op = 1 then (x.k % 2 == 0 && decide (x.k ≤ 18))
  else if x.op = 3 ∨ x.op = 4 then decide (x.k ≤ 3)
  else if x.op = 8 then decide (0 < x.k)
  else if x.op = 9 then decide (x.k ≤ 15)
  else true
/-- the first thing that is wrong with an instruction behind which left instructions stand -/
def wrongE (x : In) (left : Int) : Int :=
  if x.op < 1 ∨ 16 < x.op then 4
  else if (isTest x.op = false ∧ 0 < x.t + x.f) ∨ (x.op = 16 ∧ 0 < x.k) then 5
  else if mayB x = false then 6
  else if (x.op = 10 ∧ left ≤ x.k) ∨ (isTest x.op = true ∧ (left ≤ x.t ∨ left ≤ x.f)) then 7
  else 0
/-- from the instruction i on -/
def soundN (l : List In) (i : Nat) : List In → Int × Int
  | [] => (0, 0)
  | x :: r => if wrongE x ((r.length : Nat) : Int) = 0 then soundN l (i + 1) r else (wrongE x ((r.length : Nat) : Int), i)
def lastOp : List In → Int
  | [] => 0
  | [x] => x.op
  | _ :: y :: r => lastOp (y :: r)
def soundL (l : List In) : Int × Int :=
  if l.length = 0 then (3, 0)
  else if (soundN l 0 l).1 = 0 then (if lastOp l = 15 ∨ lastOp l = 16 then (0, 0) else (8, (l.length : Int) - 1))
  else soundN l 0 l
def sound (c : ByteArray) : Int × Int := if decE c = 0 then soundL (decL c) else (decE c, 0)

/-- what A becomes -/
def becomes (x : In) (a : Int) : Int :=
  if x.op = 5 then land a x.k
  else if x.op = 6 then a + x.k - land a x.k
  else if x.op = 7 then (if 65535 < a + x.k then a + x.k - 65536 else a + x.k)
  else if x.op = 8 then a / x.k
  else if x.op = 9 then a / 2 ^ x.k.toNat
  else a
def yes (x : In) (a : Int) : Bool :=
  if x.op = 11 then a == x.k else if x.op = 12 then decide (x.k < a) else if x.op = 13 then decide (x.k ≤ a) else decide (0 < land a x.k)
def hop (x : In) (a : Int) : Int := if x.op = 10 then x.k else if isTest x.op = true then (if yes x a = true then x.t else x.f) else 0
/-- the machine -/
structure Mc where
  a : Int
  c0 : Int
  c1 : Int
  c2 : Int
  c3 : Int
def cellGet (m : Mc) (k : Int) : Int := if k = 0 then m.c0 else if k = 1 then m.c1 else if k = 2 then m.c2 else m.c3
def cellSet (m : Mc) (k : Int) : Mc := if k = 0 then { m with c0 := m.a } else if k = 1 then { m with c1 := m.a } else if k = 2 then { m with c2 := m.a } else { m with c3 := m.a }
def stepM (r : ByteArray) (x : In) (m : Mc) : Mc :=
  if x.op = 1 then { m with a := wordAt r x.k }
  else if x.op = 2 then { m with a := x.k }
  else if x.op = 3 then { m with a := cellGet m x.k }
  else if x.op = 4 then cellSet m x.k
  else { m with a := becomes x m.a }
/-- a run from a list of instructions on: the verdict, the steps -/
def runN (r : ByteArray) : Nat → List In → Mc → Int → Int × Int
  | 0, _, _, s => (0, s)
  | n + 1, l, m, s => match l with
    | [] => (0, s)
    | x :: rest =>
      if x.op = 15 then (x.k, s + 1)
      else if x.op = 16 then (m.a, s + 1)
      else runN r n (rest.drop (hop x m.a).toNat) (stepM r x m) (s + 1)
def runL (r : ByteArray) (l : List In) : Int × Int := runN r (l.length + 1) l ⟨0, 0, 0, 0, 0⟩ 0
/-- what Run answers: the verdict, the steps, the error -/
def runC (c r : ByteArray) : Int × Int × Int :=
  if (sound c).1 = 0 then (if r.size = 20 then ((runL r (decL c)).1, (runL r (decL c)).2, 0) else (0, 0, 9)) else (0, 0, (sound c).1)

end Go.Proofs.Ytldongbimhngfaa.Sc
