/-
  No cell of these rows narrows 'for every input' (looked for: loops, veiled, ifaces, maps, wideKeys, modest, calm, conditions, laid).
  DERIVED. THE GIVEN ROWS OF THIS SEAT. 11 by the template 'for every input the law returns true; each argument reads behind the call as it read before'; 0 by the template 'total and deterministic' (their statements: YtldongbimhngfaaTotals.lean).
  GIVEN WITH THE SEED: the statements are not yours to turn. If you find one false, say at which input.
  Laid BY PROGRAM, IN A SANDBOX (cutbox-rows.mjs): the forced cells as the released guide's own fill.sh prints them over the translation cca031717bb5dda3… (all of the seat's roots in one cut). By AI agents, Wed Nov 11 2026. No macro, syntax, notation, axiom, sorry.
-/
import Derived.Test.YtldongbimhngfaaChecked
import GoSem.Claim
import GoSem.ClaimJoined
import GoSem.ClaimMapViews
import Derived.JoinedTies
import Derived.KernelRfl
namespace Go.Proofs.Ytldongbimhngfaa
/- THE CELL 'sum', in the pinned program and in every row, IS THE sha256 OF THE DUMP (.gsa) THAT YtldongbimhngfaaProg.lean LOADS. Nothing in Lean hashes anything: it is a label: what it is worth is what the hold of that sum in a sandbox is worth. -/
noncomputable def Try.pinned : Pinned := { name := "ytldongbimhngfaa", sum := "cca031717bb5dda3bd6e2b8dd73729ec1732fb942768b9a2a54cada95b627eed", checked := Try.checked }
namespace Rows
def none {H : Type} : Left H := { results := [], args := [] }

/-- 'sievekeep.First': WHATEVER THE INPUT: true; the input reads as it did. -/
def firstSpec : ChangeSpec := { name := "first", fn := fun _ => fun
  | [d1, d2, d3, d4] => { results := [.lit (.bool true)], args := [d1, d2, d3, d4] }
  | _ => none }
def firstRow : OpenClaim := { program := "ytldongbimhngfaa", sum := "cca031717bb5dda3bd6e2b8dd73729ec1732fb942768b9a2a54cada95b627eed", func := "sieve/sievekeep.First", spec := "first", recurses := true, apart := false }
def FirstSaid : Prop := firstRow.holds Try.pinned (OpenSpec.ofChange firstSpec)

/-- ITS FALSE NEIGHBOUR: 'it returns false'. Refute it at one input. -/
def firstWrong : ChangeSpec := { name := "first", fn := fun _ => fun
  | [d1, d2, d3, d4] => { results := [.lit (.bool false)], args := [d1, d2, d3, d4] }
  | _ => none }
def FirstWrongFalsely : Prop := firstRow.holds Try.pinned (OpenSpec.ofChange firstWrong)

/-- 'sievekeep.Logic': WHATEVER THE INPUT: true; the input reads as it did. -/
def logicSpec : ChangeSpec := { name := "logic", fn := fun _ => fun
  | [d1, d2, d3] => { results := [.lit (.bool true)], args := [d1, d2, d3] }
  | _ => none }
def logicRow : OpenClaim := { program := "ytldongbimhngfaa", sum := "cca031717bb5dda3bd6e2b8dd73729ec1732fb942768b9a2a54cada95b627eed", func := "sieve/sievekeep.Logic", spec := "logic", recurses := true, apart := false }
def LogicSaid : Prop := logicRow.holds Try.pinned (OpenSpec.ofChange logicSpec)

/-- ITS FALSE NEIGHBOUR: 'it returns false'. Refute it at one input. -/
def logicWrong : ChangeSpec := { name := "logic", fn := fun _ => fun
  | [d1, d2, d3] => { results := [.lit (.bool false)], args := [d1, d2, d3] }
  | _ => none }
def LogicWrongFalsely : Prop := logicRow.holds Try.pinned (OpenSpec.ofChange logicWrong)

/-- 'sievekeep.Atoms': WHATEVER THE INPUT: true; the input reads as it did. -/
def atomsSpec : ChangeSpec := { name := "atoms", fn := fun _ => fun
  | [d1, d2, d3, d4, d5] => { results := [.lit (.bool true)], args := [d1, d2, d3, d4, d5] }
  | _ => none }
def atomsRow : OpenClaim := { program := "ytldongbimhngfaa", sum := "cca031717bb5dda3bd6e2b8dd73729ec1732fb942768b9a2a54cada95b627eed", func := "sieve/sievekeep.Atoms", spec := "atoms", recurses := true, apart := false }
def AtomsSaid : Prop := atomsRow.holds Try.pinned (OpenSpec.ofChange atomsSpec)

/-- ITS FALSE NEIGHBOUR: 'it returns false'. Refute it at one input. -/
def atomsWrong : ChangeSpec := { name := "atoms", fn := fun _ => fun
  | [d1, d2, d3, d4, d5] => { results := [.lit (.bool false)], args := [d1, d2, d3, d4, d5] }
  | _ => none }
def AtomsWrongFalsely : Prop := atomsRow.holds Try.pinned (OpenSpec.ofChange atomsWrong)

/-- 'sievekeep.Round': WHATEVER THE INPUT: true; the input reads as it did. -/
def roundSpec : ChangeSpec := { name := "round", fn := fun _ => fun
  | [d1, d2] => { results := [.lit (.bool true)], args := [d1, d2] }
  | _ => none }
def roundRow : OpenClaim := { program := "ytldongbimhngfaa", sum := "cca031717bb5dda3bd6e2b8dd73729ec1732fb942768b9a2a54cada95b627eed", func := "sieve/sievekeep.Round", spec := "round", apart := false }
def RoundSaid : Prop := roundRow.holds Try.pinned (OpenSpec.ofChange roundSpec)

/-- ITS FALSE NEIGHBOUR: 'it returns false'. Refute it at one input. -/
def roundWrong : ChangeSpec := { name := "round", fn := fun _ => fun
  | [d1, d2] => { results := [.lit (.bool false)], args := [d1, d2] }
  | _ => none }
def RoundWrongFalsely : Prop := roundRow.holds Try.pinned (OpenSpec.ofChange roundWrong)

/-- 'sievekeep.Padded': WHATEVER THE INPUT: true; the input reads as it did. -/
def paddedSpec : ChangeSpec := { name := "padded", fn := fun _ => fun
  | [d1, d2, d3] => { results := [.lit (.bool true)], args := [d1, d2, d3] }
  | _ => none }
def paddedRow : OpenClaim := { program := "ytldongbimhngfaa", sum := "cca031717bb5dda3bd6e2b8dd73729ec1732fb942768b9a2a54cada95b627eed", func := "sieve/sievekeep.Padded", spec := "padded", apart := false }
def PaddedSaid : Prop := paddedRow.holds Try.pinned (OpenSpec.ofChange paddedSpec)

/-- ITS FALSE NEIGHBOUR: 'it returns false'. Refute it at one input. -/
def paddedWrong : ChangeSpec := { name := "padded", fn := fun _ => fun
  | [d1, d2, d3] => { results := [.lit (.bool false)], args := [d1, d2, d3] }
  | _ => none }
def PaddedWrongFalsely : Prop := paddedRow.holds Try.pinned (OpenSpec.ofChange paddedWrong)

/-- 'sievekeep.Blind': WHATEVER THE INPUT: true; the input reads as it did. -/
def blindSpec : ChangeSpec := { name := "blind", fn := fun _ => fun
  | [d1, d2, d3, d4] => { results := [.lit (.bool true)], args := [d1, d2, d3, d4] }
  | _ => none }
def blindRow : OpenClaim := { program := "ytldongbimhngfaa", sum := "cca031717bb5dda3bd6e2b8dd73729ec1732fb942768b9a2a54cada95b627eed", func := "sieve/sievekeep.Blind", spec := "blind", apart := false }
def BlindSaid : Prop := blindRow.holds Try.pinned (OpenSpec.ofChange blindSpec)

/-- ITS FALSE NEIGHBOUR: 'it returns false'. Refute it at one input. -/
def blindWrong : ChangeSpec := { name := "blind", fn := fun _ => fun
  | [d1, d2, d3, d4] => { results := [.lit (.bool false)], args := [d1, d2, d3, d4] }
  | _ => none }
def BlindWrongFalsely : Prop := blindRow.holds Try.pinned (OpenSpec.ofChange blindWrong)

/-- 'sievekeep.Upheld': WHATEVER THE INPUT: true; the input reads as it did. -/
def upheldSpec : ChangeSpec := { name := "upheld", fn := fun _ => fun
  | [d1, d2, d3] => { results := [.lit (.bool true)], args := [d1, d2, d3] }
  | _ => none }
def upheldRow : OpenClaim := { program := "ytldongbimhngfaa", sum := "cca031717bb5dda3bd6e2b8dd73729ec1732fb942768b9a2a54cada95b627eed", func := "sieve/sievekeep.Upheld", spec := "upheld", apart := false }
def UpheldSaid : Prop := upheldRow.holds Try.pinned (OpenSpec.ofChange upheldSpec)

/-- ITS FALSE NEIGHBOUR: 'it returns false'. Refute it at one input. -/
def upheldWrong : ChangeSpec := { name := "upheld", fn := fun _ => fun
  | [d1, d2, d3] => { results := [.lit (.bool false)], args := [d1, d2, d3] }
  | _ => none }
def UpheldWrongFalsely : Prop := upheldRow.holds Try.pinned (OpenSpec.ofChange upheldWrong)

/-- 'sievekeep.Chained': WHATEVER THE INPUT: true; the input reads as it did. -/
def chainedSpec : ChangeSpec := { name := "chained", fn := fun _ => fun
  | [d1, d2, d3] => { results := [.lit (.bool true)], args := [d1, d2, d3] }
  | _ => none }
def chainedRow : OpenClaim := { program := "ytldongbimhngfaa", sum := "cca031717bb5dda3bd6e2b8dd73729ec1732fb942768b9a2a54cada95b627eed", func := "sieve/sievekeep.Chained", spec := "chained", apart := false }
def ChainedSaid : Prop := chainedRow.holds Try.pinned (OpenSpec.ofChange chainedSpec)

/-- ITS FALSE NEIGHBOUR: 'it returns false'. Refute it at one input. -/
def chainedWrong : ChangeSpec := { name := "chained", fn := fun _ => fun
  | [d1, d2, d3] => { results := [.lit (.bool false)], args := [d1, d2, d3] }
  | _ => none }
def ChainedWrongFalsely : Prop := chainedRow.holds Try.pinned (OpenSpec.ofChange chainedWrong)

/-- 'sievekeep.Cleaned': WHATEVER THE INPUT: true; the input reads as it did. -/
def cleanedSpec : ChangeSpec := { name := "cleaned", fn := fun _ => fun
  | [d1, d2, d3] => { results := [.lit (.bool true)], args := [d1, d2, d3] }
  | _ => none }
def cleanedRow : OpenClaim := { program := "ytldongbimhngfaa", sum := "cca031717bb5dda3bd6e2b8dd73729ec1732fb942768b9a2a54cada95b627eed", func := "sieve/sievekeep.Cleaned", spec := "cleaned", apart := false }
def CleanedSaid : Prop := cleanedRow.holds Try.pinned (OpenSpec.ofChange cleanedSpec)

/-- ITS FALSE NEIGHBOUR: 'it returns false'. Refute it at one input. -/
def cleanedWrong : ChangeSpec := { name := "cleaned", fn := fun _ => fun
  | [d1, d2, d3] => { results := [.lit (.bool false)], args := [d1, d2, d3] }
  | _ => none }
def CleanedWrongFalsely : Prop := cleanedRow.holds Try.pinned (OpenSpec.ofChange cleanedWrong)

/-- 'sievekeep.Same': WHATEVER THE INPUT: true; the input reads as it did. -/
def sameSpec : ChangeSpec := { name := "same", fn := fun _ => fun
  | [d1, d2, d3] => { results := [.lit (.bool true)], args := [d1, d2, d3] }
  | _ => none }
def sameRow : OpenClaim := { program := "ytldongbimhngfaa", sum := "cca031717bb5dda3bd6e2b8dd73729ec1732fb942768b9a2a54cada95b627eed", func := "sieve/sievekeep.Same", spec := "same", recurses := true, apart := false }
def SameSaid : Prop := sameRow.holds Try.pinned (OpenSpec.ofChange sameSpec)

/-- ITS FALSE NEIGHBOUR: 'it returns false'. Refute it at one input. -/
def sameWrong : ChangeSpec := { name := "same", fn := fun _ => fun
  | [d1, d2, d3] => { results := [.lit (.bool false)], args := [d1, d2, d3] }
  | _ => none }
def SameWrongFalsely : Prop := sameRow.holds Try.pinned (OpenSpec.ofChange sameWrong)

/-- 'sievekeep.Agreed': WHATEVER THE INPUT: true; the input reads as it did. -/
def agreedSpec : ChangeSpec := { name := "agreed", fn := fun _ => fun
  | [d1, d2, d3, d4] => { results := [.lit (.bool true)], args := [d1, d2, d3, d4] }
  | _ => none }
def agreedRow : OpenClaim := { program := "ytldongbimhngfaa", sum := "cca031717bb5dda3bd6e2b8dd73729ec1732fb942768b9a2a54cada95b627eed", func := "sieve/sievekeep.Agreed", spec := "agreed", recurses := true, apart := false }
def AgreedSaid : Prop := agreedRow.holds Try.pinned (OpenSpec.ofChange agreedSpec)

/-- ITS FALSE NEIGHBOUR: 'it returns false'. Refute it at one input. -/
def agreedWrong : ChangeSpec := { name := "agreed", fn := fun _ => fun
  | [d1, d2, d3, d4] => { results := [.lit (.bool false)], args := [d1, d2, d3, d4] }
  | _ => none }
def AgreedWrongFalsely : Prop := agreedRow.holds Try.pinned (OpenSpec.ofChange agreedWrong)

/- THE SECOND FORM. 'bulk': how many values and letters a reading holds, each counted each time it is reached (what is shared counts as often as it is met; a slice's spare places count too). A statement '..UptoSaid' is the law's where the arguments, and the package variables that the reading takes, are together of bulk at most 1048576: NARROWER than '..Said'. Prove '..Said' where nothing that the law and all that it calls make is longer than what came in: it says more and counts as full. Else prove '..UptoSaid'. A law counts once. -/
mutual
def uptoBulk {H : Type} : DataW H → Nat
  | .lit (.string bytes) => bytes.length + 1
  | .lit _ => 1
  | .nil => 1
  | .ptr d => uptoBulk d + 1
  | .slice elems spare => uptoBulkAll elems + uptoBulkAll spare + 1
  | .agg parts => uptoBulkAll parts + 1
  | .iface _ d => uptoBulk d + 1
  | .map entries => uptoBulkEntries entries + 1
  | .held _ => 1
def uptoBulkAll {H : Type} : List (DataW H) → Nat
  | [] => 0
  | d :: r => uptoBulk d + uptoBulkAll r
def uptoBulkEntries {H : Type} : List (Lit × DataW H) → Nat
  | [] => 0
  | x :: r => uptoBulkEntry x + uptoBulkEntries r
def uptoBulkEntry {H : Type} : Lit × DataW H → Nat
  | (.string bytes, d) => bytes.length + uptoBulk d + 1
  | (_, d) => uptoBulk d + 1
 end
def uptoSmall : (H : Type) → List (DataW H) → Bool := fun _ ds => decide (uptoBulkAll ds ≤ 1048576)
def OpenSpec.upto (s : _root_.Go.ChangeSpec) : _root_.Go.OpenSpec := { _root_.Go.OpenSpec.ofChange s with cond := some uptoSmall }

/-- 'sievekeep.First', WHERE WHAT IT READS IS OF BULK AT MOST 1048576: true; the input reads as it did. -/
def firstUptoRow : OpenClaim := { program := "ytldongbimhngfaa", sum := "cca031717bb5dda3bd6e2b8dd73729ec1732fb942768b9a2a54cada95b627eed", func := "sieve/sievekeep.First", spec := "first", recurses := true, apart := false, narrowed := true }
def FirstUptoSaid : Prop := firstUptoRow.holds Try.pinned (OpenSpec.upto firstSpec)

/-- 'sievekeep.Logic', WHERE WHAT IT READS IS OF BULK AT MOST 1048576: true; the input reads as it did. -/
def logicUptoRow : OpenClaim := { program := "ytldongbimhngfaa", sum := "cca031717bb5dda3bd6e2b8dd73729ec1732fb942768b9a2a54cada95b627eed", func := "sieve/sievekeep.Logic", spec := "logic", recurses := true, apart := false, narrowed := true }
def LogicUptoSaid : Prop := logicUptoRow.holds Try.pinned (OpenSpec.upto logicSpec)

/-- 'sievekeep.Atoms', WHERE WHAT IT READS IS OF BULK AT MOST 1048576: true; the input reads as it did. -/
def atomsUptoRow : OpenClaim := { program := "ytldongbimhngfaa", sum := "cca031717bb5dda3bd6e2b8dd73729ec1732fb942768b9a2a54cada95b627eed", func := "sieve/sievekeep.Atoms", spec := "atoms", recurses := true, apart := false, narrowed := true }
def AtomsUptoSaid : Prop := atomsUptoRow.holds Try.pinned (OpenSpec.upto atomsSpec)

/-- 'sievekeep.Round', WHERE WHAT IT READS IS OF BULK AT MOST 1048576: true; the input reads as it did. -/
def roundUptoRow : OpenClaim := { program := "ytldongbimhngfaa", sum := "cca031717bb5dda3bd6e2b8dd73729ec1732fb942768b9a2a54cada95b627eed", func := "sieve/sievekeep.Round", spec := "round", apart := false, narrowed := true }
def RoundUptoSaid : Prop := roundUptoRow.holds Try.pinned (OpenSpec.upto roundSpec)

/-- 'sievekeep.Padded', WHERE WHAT IT READS IS OF BULK AT MOST 1048576: true; the input reads as it did. -/
def paddedUptoRow : OpenClaim := { program := "ytldongbimhngfaa", sum := "cca031717bb5dda3bd6e2b8dd73729ec1732fb942768b9a2a54cada95b627eed", func := "sieve/sievekeep.Padded", spec := "padded", apart := false, narrowed := true }
def PaddedUptoSaid : Prop := paddedUptoRow.holds Try.pinned (OpenSpec.upto paddedSpec)

/-- 'sievekeep.Blind', WHERE WHAT IT READS IS OF BULK AT MOST 1048576: true; the input reads as it did. -/
def blindUptoRow : OpenClaim := { program := "ytldongbimhngfaa", sum := "cca031717bb5dda3bd6e2b8dd73729ec1732fb942768b9a2a54cada95b627eed", func := "sieve/sievekeep.Blind", spec := "blind", apart := false, narrowed := true }
def BlindUptoSaid : Prop := blindUptoRow.holds Try.pinned (OpenSpec.upto blindSpec)

/-- 'sievekeep.Upheld', WHERE WHAT IT READS IS OF BULK AT MOST 1048576: true; the input reads as it did. -/
def upheldUptoRow : OpenClaim := { program := "ytldongbimhngfaa", sum := "cca031717bb5dda3bd6e2b8dd73729ec1732fb942768b9a2a54cada95b627eed", func := "sieve/sievekeep.Upheld", spec := "upheld", apart := false, narrowed := true }
def UpheldUptoSaid : Prop := upheldUptoRow.holds Try.pinned (OpenSpec.upto upheldSpec)

/-- 'sievekeep.Chained', WHERE WHAT IT READS IS OF BULK AT MOST 1048576: true; the input reads as it did. -/
def chainedUptoRow : OpenClaim := { program := "ytldongbimhngfaa", sum := "cca031717bb5dda3bd6e2b8dd73729ec1732fb942768b9a2a54cada95b627eed", func := "sieve/sievekeep.Chained", spec := "chained", apart := false, narrowed := true }
def ChainedUptoSaid : Prop := chainedUptoRow.holds Try.pinned (OpenSpec.upto chainedSpec)

/-- 'sievekeep.Cleaned', WHERE WHAT IT READS IS OF BULK AT MOST 1048576: true; the input reads as it did. -/
def cleanedUptoRow : OpenClaim := { program := "ytldongbimhngfaa", sum := "cca031717bb5dda3bd6e2b8dd73729ec1732fb942768b9a2a54cada95b627eed", func := "sieve/sievekeep.Cleaned", spec := "cleaned", apart := false, narrowed := true }
def CleanedUptoSaid : Prop := cleanedUptoRow.holds Try.pinned (OpenSpec.upto cleanedSpec)

/-- 'sievekeep.Same', WHERE WHAT IT READS IS OF BULK AT MOST 1048576: true; the input reads as it did. -/
def sameUptoRow : OpenClaim := { program := "ytldongbimhngfaa", sum := "cca031717bb5dda3bd6e2b8dd73729ec1732fb942768b9a2a54cada95b627eed", func := "sieve/sievekeep.Same", spec := "same", recurses := true, apart := false, narrowed := true }
def SameUptoSaid : Prop := sameUptoRow.holds Try.pinned (OpenSpec.upto sameSpec)

/-- 'sievekeep.Agreed', WHERE WHAT IT READS IS OF BULK AT MOST 1048576: true; the input reads as it did. -/
def agreedUptoRow : OpenClaim := { program := "ytldongbimhngfaa", sum := "cca031717bb5dda3bd6e2b8dd73729ec1732fb942768b9a2a54cada95b627eed", func := "sieve/sievekeep.Agreed", spec := "agreed", recurses := true, apart := false, narrowed := true }
def AgreedUptoSaid : Prop := agreedUptoRow.holds Try.pinned (OpenSpec.upto agreedSpec)

end Rows
end Go.Proofs.Ytldongbimhngfaa
