/-
  No cell of these rows narrows 'for every input' (looked for: loops, veiled, ifaces, maps, wideKeys, modest, calm, conditions, laid).
  DERIVED. THE GIVEN ROWS OF THIS SEAT. 8 by the template 'for every input the law returns true; each argument reads behind the call as it read before'; 0 by the template 'total and deterministic' (their statements: YtpamlgdopmjooaaGreatTotals.lean).
  GIVEN WITH THE SEED: the statements are not yours to turn. If you find one false, say at which input.
  Laid BY PROGRAM, IN A SANDBOX (cutbox-rows.mjs): the forced cells as the released guide's own fill.sh prints them over the translation 78deabe1f0275fef… (all of the seat's roots in one cut). By AI agents, Wed Nov 11 2026. No macro, syntax, notation, axiom, sorry.
-/
import Derived.Test.YtpamlgdopmjooaaGreatChecked
import GoSem.Claim
import GoSem.ClaimJoined
import GoSem.ClaimMapViews
import Derived.JoinedTies
import Derived.KernelRfl
namespace Go.Proofs.YtpamlgdopmjooaaGreat
/- THE CELL 'sum', in the pinned program and in every row, IS THE sha256 OF THE DUMP (.gsa) THAT YtpamlgdopmjooaaGreatProg.lean LOADS. Nothing in Lean hashes anything: it is a label: what it is worth is what the hold of that sum in a sandbox is worth. -/
noncomputable def Tryz.pinned : Pinned := { name := "ytpamlgdopmjooaagreat", sum := "78deabe1f0275fef72f90f7cce4c21a370da3007785638a759274a4a4c73e031", checked := Tryz.checked }
namespace Rows
def none {H : Type} : Left H := { results := [], args := [] }

/-- 'sievelaw.Checks': WHATEVER THE INPUT: true; the input reads as it did. -/
def checksSpec : ChangeSpec := { name := "checks", fn := fun _ => fun
  | [d] => { results := [.lit (.bool true)], args := [d] }
  | _ => none }
def checksRow : OpenClaim := { program := "ytpamlgdopmjooaagreat", sum := "78deabe1f0275fef72f90f7cce4c21a370da3007785638a759274a4a4c73e031", func := "sieve/sievelaw.Checks", spec := "checks", recurses := true, apart := false }
def ChecksSaid : Prop := checksRow.holds Tryz.pinned (OpenSpec.ofChange checksSpec)

/-- ITS FALSE NEIGHBOUR: 'it returns false'. Refute it at one input. -/
def checksWrong : ChangeSpec := { name := "checks", fn := fun _ => fun
  | [d] => { results := [.lit (.bool false)], args := [d] }
  | _ => none }
def ChecksWrongFalsely : Prop := checksRow.holds Tryz.pinned (OpenSpec.ofChange checksWrong)

/-- 'sievelaw.Judges': WHATEVER THE INPUT: true; the input reads as it did. -/
def judgesSpec : ChangeSpec := { name := "judges", fn := fun _ => fun
  | [d] => { results := [.lit (.bool true)], args := [d] }
  | _ => none }
def judgesRow : OpenClaim := { program := "ytpamlgdopmjooaagreat", sum := "78deabe1f0275fef72f90f7cce4c21a370da3007785638a759274a4a4c73e031", func := "sieve/sievelaw.Judges", spec := "judges", recurses := true, apart := false }
def JudgesSaid : Prop := judgesRow.holds Tryz.pinned (OpenSpec.ofChange judgesSpec)

/-- ITS FALSE NEIGHBOUR: 'it returns false'. Refute it at one input. -/
def judgesWrong : ChangeSpec := { name := "judges", fn := fun _ => fun
  | [d] => { results := [.lit (.bool false)], args := [d] }
  | _ => none }
def JudgesWrongFalsely : Prop := judgesRow.holds Tryz.pinned (OpenSpec.ofChange judgesWrong)

/-- 'sievelaw.Codes': WHATEVER THE INPUT: true; the input reads as it did. -/
def codesSpec : ChangeSpec := { name := "codes", fn := fun _ => fun
  | [d] => { results := [.lit (.bool true)], args := [d] }
  | _ => none }
def codesRow : OpenClaim := { program := "ytpamlgdopmjooaagreat", sum := "78deabe1f0275fef72f90f7cce4c21a370da3007785638a759274a4a4c73e031", func := "sieve/sievelaw.Codes", spec := "codes", recurses := true, apart := false }
def CodesSaid : Prop := codesRow.holds Tryz.pinned (OpenSpec.ofChange codesSpec)

/-- ITS FALSE NEIGHBOUR: 'it returns false'. Refute it at one input. -/
def codesWrong : ChangeSpec := { name := "codes", fn := fun _ => fun
  | [d] => { results := [.lit (.bool false)], args := [d] }
  | _ => none }
def CodesWrongFalsely : Prop := codesRow.holds Tryz.pinned (OpenSpec.ofChange codesWrong)

/-- 'sievelaw.Sounds': WHATEVER THE INPUT: true; the input reads as it did. -/
def soundsSpec : ChangeSpec := { name := "sounds", fn := fun _ => fun
  | [d] => { results := [.lit (.bool true)], args := [d] }
  | _ => none }
def soundsRow : OpenClaim := { program := "ytpamlgdopmjooaagreat", sum := "78deabe1f0275fef72f90f7cce4c21a370da3007785638a759274a4a4c73e031", func := "sieve/sievelaw.Sounds", spec := "sounds", recurses := true, apart := false }
def SoundsSaid : Prop := soundsRow.holds Tryz.pinned (OpenSpec.ofChange soundsSpec)

/-- ITS FALSE NEIGHBOUR: 'it returns false'. Refute it at one input. -/
def soundsWrong : ChangeSpec := { name := "sounds", fn := fun _ => fun
  | [d] => { results := [.lit (.bool false)], args := [d] }
  | _ => none }
def SoundsWrongFalsely : Prop := soundsRow.holds Tryz.pinned (OpenSpec.ofChange soundsWrong)

/-- 'sievelaw.Runs': WHATEVER THE INPUT: true; the input reads as it did. -/
def runsSpec : ChangeSpec := { name := "runs", fn := fun _ => fun
  | [d] => { results := [.lit (.bool true)], args := [d] }
  | _ => none }
def runsRow : OpenClaim := { program := "ytpamlgdopmjooaagreat", sum := "78deabe1f0275fef72f90f7cce4c21a370da3007785638a759274a4a4c73e031", func := "sieve/sievelaw.Runs", spec := "runs", recurses := true, apart := false }
def RunsSaid : Prop := runsRow.holds Tryz.pinned (OpenSpec.ofChange runsSpec)

/-- ITS FALSE NEIGHBOUR: 'it returns false'. Refute it at one input. -/
def runsWrong : ChangeSpec := { name := "runs", fn := fun _ => fun
  | [d] => { results := [.lit (.bool false)], args := [d] }
  | _ => none }
def RunsWrongFalsely : Prop := runsRow.holds Tryz.pinned (OpenSpec.ofChange runsWrong)

/-- 'sievelaw.Improves': WHATEVER THE INPUT: true; the input reads as it did. -/
def improvesSpec : ChangeSpec := { name := "improves", fn := fun _ => fun
  | [d] => { results := [.lit (.bool true)], args := [d] }
  | _ => none }
def improvesRow : OpenClaim := { program := "ytpamlgdopmjooaagreat", sum := "78deabe1f0275fef72f90f7cce4c21a370da3007785638a759274a4a4c73e031", func := "sieve/sievelaw.Improves", spec := "improves", recurses := true, apart := false }
def ImprovesSaid : Prop := improvesRow.holds Tryz.pinned (OpenSpec.ofChange improvesSpec)

/-- ITS FALSE NEIGHBOUR: 'it returns false'. Refute it at one input. -/
def improvesWrong : ChangeSpec := { name := "improves", fn := fun _ => fun
  | [d] => { results := [.lit (.bool false)], args := [d] }
  | _ => none }
def ImprovesWrongFalsely : Prop := improvesRow.holds Tryz.pinned (OpenSpec.ofChange improvesWrong)

/-- 'sievelaw.Compiles': WHATEVER THE INPUT: true; the input reads as it did. -/
def compilesSpec : ChangeSpec := { name := "compiles", fn := fun _ => fun
  | [d] => { results := [.lit (.bool true)], args := [d] }
  | _ => none }
def compilesRow : OpenClaim := { program := "ytpamlgdopmjooaagreat", sum := "78deabe1f0275fef72f90f7cce4c21a370da3007785638a759274a4a4c73e031", func := "sieve/sievelaw.Compiles", spec := "compiles", recurses := true, apart := false }
def CompilesSaid : Prop := compilesRow.holds Tryz.pinned (OpenSpec.ofChange compilesSpec)

/-- ITS FALSE NEIGHBOUR: 'it returns false'. Refute it at one input. -/
def compilesWrong : ChangeSpec := { name := "compiles", fn := fun _ => fun
  | [d] => { results := [.lit (.bool false)], args := [d] }
  | _ => none }
def CompilesWrongFalsely : Prop := compilesRow.holds Tryz.pinned (OpenSpec.ofChange compilesWrong)

/-- 'sievelaw.All': WHATEVER THE INPUT: true; the input reads as it did. -/
def allSpec : ChangeSpec := { name := "all", fn := fun _ => fun
  | [d] => { results := [.lit (.bool true)], args := [d] }
  | _ => none }
def allRow : OpenClaim := { program := "ytpamlgdopmjooaagreat", sum := "78deabe1f0275fef72f90f7cce4c21a370da3007785638a759274a4a4c73e031", func := "sieve/sievelaw.All", spec := "all", recurses := true, apart := false }
def AllSaid : Prop := allRow.holds Tryz.pinned (OpenSpec.ofChange allSpec)

/-- ITS FALSE NEIGHBOUR: 'it returns false'. Refute it at one input. -/
def allWrong : ChangeSpec := { name := "all", fn := fun _ => fun
  | [d] => { results := [.lit (.bool false)], args := [d] }
  | _ => none }
def AllWrongFalsely : Prop := allRow.holds Tryz.pinned (OpenSpec.ofChange allWrong)

/- THE SECOND FORM. 'bulk': how many values and letters a reading holds, each counted each time it is reached (what is shared counts as often as it is met; a slice's spare places count too). A statement '..UptoSaid' is the law's where the arguments, and the package variables that the reading takes, are together of bulk at most 1048576: NARROWER than '..Said'. Prove '..Said' where nothing that the law and all that it calls make is longer than what came in: it says more and counts as full. Else prove '..UptoSaid'. A law counts once. -/
mutual
def uptoBulk {H : Type} : DataW H → Nat
  | .lit (.string bytes) => bytes.length + 1
  | .lit _ => 1
  | .nil => 1
  | .ptr d => uptoBulk d + 1
  | .slice elems spare => uptoBulkAll elems + uptoBulkAll spare + 1
  | .agg parts => uptoBulkAll parts + 1
  | .iface _ d => uptoBulk d + 1
  | .map entries => uptoBulkEntries entries + 1
  | .held _ => 1
def uptoBulkAll {H : Type} : List (DataW H) → Nat
  | [] => 0
  | d :: r => uptoBulk d + uptoBulkAll r
def uptoBulkEntries {H : Type} : List (Lit × DataW H) → Nat
  | [] => 0
  | x :: r => uptoBulkEntry x + uptoBulkEntries r
def uptoBulkEntry {H : Type} : Lit × DataW H → Nat
  | (.string bytes, d) => bytes.length + uptoBulk d + 1
  | (_, d) => uptoBulk d + 1
 end
def uptoSmall : (H : Type) → List (DataW H) → Bool := fun _ ds => decide (uptoBulkAll ds ≤ 1048576)
def OpenSpec.upto (s : _root_.Go.ChangeSpec) : _root_.Go.OpenSpec := { _root_.Go.OpenSpec.ofChange s with cond := some uptoSmall }

/-- 'sievelaw.Checks', WHERE WHAT IT READS IS OF BULK AT MOST 1048576: true; the input reads as it did. -/
def checksUptoRow : OpenClaim := { program := "ytpamlgdopmjooaagreat", sum := "78deabe1f0275fef72f90f7cce4c21a370da3007785638a759274a4a4c73e031", func := "sieve/sievelaw.Checks", spec := "checks", recurses := true, apart := false, narrowed := true }
def ChecksUptoSaid : Prop := checksUptoRow.holds Tryz.pinned (OpenSpec.upto checksSpec)

/-- 'sievelaw.Judges', WHERE WHAT IT READS IS OF BULK AT MOST 1048576: true; the input reads as it did. -/
def judgesUptoRow : OpenClaim := { program := "ytpamlgdopmjooaagreat", sum := "78deabe1f0275fef72f90f7cce4c21a370da3007785638a759274a4a4c73e031", func := "sieve/sievelaw.Judges", spec := "judges", recurses := true, apart := false, narrowed := true }
def JudgesUptoSaid : Prop := judgesUptoRow.holds Tryz.pinned (OpenSpec.upto judgesSpec)

/-- 'sievelaw.Codes', WHERE WHAT IT READS IS OF BULK AT MOST 1048576: true; the input reads as it did. -/
def codesUptoRow : OpenClaim := { program := "ytpamlgdopmjooaagreat", sum := "78deabe1f0275fef72f90f7cce4c21a370da3007785638a759274a4a4c73e031", func := "sieve/sievelaw.Codes", spec := "codes", recurses := true, apart := false, narrowed := true }
def CodesUptoSaid : Prop := codesUptoRow.holds Tryz.pinned (OpenSpec.upto codesSpec)

/-- 'sievelaw.Sounds', WHERE WHAT IT READS IS OF BULK AT MOST 1048576: true; the input reads as it did. -/
def soundsUptoRow : OpenClaim := { program := "ytpamlgdopmjooaagreat", sum := "78deabe1f0275fef72f90f7cce4c21a370da3007785638a759274a4a4c73e031", func := "sieve/sievelaw.Sounds", spec := "sounds", recurses := true, apart := false, narrowed := true }
def SoundsUptoSaid : Prop := soundsUptoRow.holds Tryz.pinned (OpenSpec.upto soundsSpec)

/-- 'sievelaw.Runs', WHERE WHAT IT READS IS OF BULK AT MOST 1048576: true; the input reads as it did. -/
def runsUptoRow : OpenClaim := { program := "ytpamlgdopmjooaagreat", sum := "78deabe1f0275fef72f90f7cce4c21a370da3007785638a759274a4a4c73e031", func := "sieve/sievelaw.Runs", spec := "runs", recurses := true, apart := false, narrowed := true }
def RunsUptoSaid : Prop := runsUptoRow.holds Tryz.pinned (OpenSpec.upto runsSpec)

/-- 'sievelaw.Improves', WHERE WHAT IT READS IS OF BULK AT MOST 1048576: true; the input reads as it did. -/
def improvesUptoRow : OpenClaim := { program := "ytpamlgdopmjooaagreat", sum := "78deabe1f0275fef72f90f7cce4c21a370da3007785638a759274a4a4c73e031", func := "sieve/sievelaw.Improves", spec := "improves", recurses := true, apart := false, narrowed := true }
def ImprovesUptoSaid : Prop := improvesUptoRow.holds Tryz.pinned (OpenSpec.upto improvesSpec)

/-- 'sievelaw.Compiles', WHERE WHAT IT READS IS OF BULK AT MOST 1048576: true; the input reads as it did. -/
def compilesUptoRow : OpenClaim := { program := "ytpamlgdopmjooaagreat", sum := "78deabe1f0275fef72f90f7cce4c21a370da3007785638a759274a4a4c73e031", func := "sieve/sievelaw.Compiles", spec := "compiles", recurses := true, apart := false, narrowed := true }
def CompilesUptoSaid : Prop := compilesUptoRow.holds Tryz.pinned (OpenSpec.upto compilesSpec)

/-- 'sievelaw.All', WHERE WHAT IT READS IS OF BULK AT MOST 1048576: true; the input reads as it did. -/
def allUptoRow : OpenClaim := { program := "ytpamlgdopmjooaagreat", sum := "78deabe1f0275fef72f90f7cce4c21a370da3007785638a759274a4a4c73e031", func := "sieve/sievelaw.All", spec := "all", recurses := true, apart := false, narrowed := true }
def AllUptoSaid : Prop := allUptoRow.holds Tryz.pinned (OpenSpec.upto allSpec)

end Rows
end Go.Proofs.YtpamlgdopmjooaaGreat
