/- What may stand next: plain functions. -/
import Derived.Test.YtldongbimhngfaaSpec
namespace Go.Proofs.Ytldongbimhngfaa
namespace Sv

/-- what may stand behind the byte c, where now stands form; none: c cannot stand there -/
def isHex (c : Int) : Bool := (decide (48 ≤ c) && decide (c ≤ 57)) || (decide (97 ≤ c) && decide (c ≤ 102))
def isRel (c : Int) : Bool := c == 61 || c == 60 || c == 62
def nxt : List UInt8 → Int → Option (List UInt8)
  | [], _ => none
  | e :: rest, c =>
    if e = 80 then (if c = 63 then some ([67, 58, 120, 120, 120, 120, 80] ++ rest) else if c = 46 then some ([120, 120, 120, 120] ++ rest) else none)
    else if e = 67 then
      (if c = 84 then some rest else if c = 33 then some ([67] ++ rest) else if c = 38 ∨ c = 124 then some ([67, 67] ++ rest)
       else if c = 110 ∨ c = 104 then some ([114, 120, 120, 120, 120] ++ rest) else if c = 97 then some ([68, 82] ++ rest) else none)
    else if e = 82 then
      (if c = 38 then some ([120, 120, 120, 120, 120, 120, 120, 120, 61, 120, 120, 120, 120, 120, 120, 120, 120] ++ rest)
       else if isRel c = true then some ([120, 120, 120, 120, 120, 120, 120, 120] ++ rest) else none)
    else if e = 114 then (if isRel c = true then some rest else none)
    else if e = 68 then (if 48 ≤ c ∧ c ≤ 51 then some rest else none)
    else if e = 120 then (if isHex c = true then some rest else none)
    else if c = e.toNat then some rest else none

def runN (t : ByteArray) : Nat → Nat → List UInt8 → Int × Int
  | 0, p, form => if form = [] then (0, 0) else (2, p)
  | k + 1, p, form => match nxt form (byteAt t p) with
    | none => (2, p)
    | some f => runN t k (p + 1) f
/-- what the reading answers from p on, where form may stand -/
def run (t : ByteArray) (p : Nat) (form : List UInt8) : Int × Int := runN t (t.size - p) p form

end Sv
end Go.Proofs.Ytldongbimhngfaa
