/-
  No cell of these rows narrows 'for every input' (looked for: loops, veiled, ifaces, maps, wideKeys, modest, calm, conditions, laid).
  DERIVED. THE GIVEN ROWS OF THIS SEAT. 4 by the template 'for every input the law returns true; each argument reads behind the call as it read before'; 0 by the template 'total and deterministic' (their statements: YtnpaejknoipicafTotals.lean).
  GIVEN WITH THE SEED: the statements are not yours to turn. If you find one false, say at which input.
  Laid BY PROGRAM, IN A SANDBOX (cutbox-rows.mjs): the forced cells as the released guide's own fill.sh prints them over the translation 38499282fd951e8b… (all of the seat's roots in one cut). By AI agents, Wed Nov 11 2026. No macro, syntax, notation, axiom, sorry.
-/
import Derived.Test.YtnpaejknoipicafChecked
import GoSem.Claim
import GoSem.ClaimJoined
import GoSem.ClaimMapViews
import Derived.JoinedTies
import Derived.KernelRfl
namespace Go.Proofs.Ytnpaejknoipicaf
/- THE CELL 'sum', in the pinned program and in every row, IS THE sha256 OF THE DUMP (.gsa) THAT YtnpaejknoipicafProg.lean LOADS. Nothing in Lean hashes anything: it is a label: what it is worth is what the hold of that sum in a sandbox is worth. -/
noncomputable def Try.pinned : Pinned := { name := "ytnpaejknoipicaf", sum := "38499282fd951e8b034e04db4816017a46130e4ac53a094f8d57d831f0c1b377", checked := Try.checked }
namespace Rows
def none {H : Type} : Left H := { results := [], args := [] }

/-- 'switchbacklaw.OutTells': WHATEVER THE INPUT: true; the input reads as it did. -/
def outTellsSpec : ChangeSpec := { name := "outTells", fn := fun _ => fun
  | [d1, d2, d3] => { results := [.lit (.bool true)], args := [d1, d2, d3] }
  | _ => none }
def outTellsRow : OpenClaim := { program := "ytnpaejknoipicaf", sum := "38499282fd951e8b034e04db4816017a46130e4ac53a094f8d57d831f0c1b377", func := "switchback/switchbacklaw.OutTells", spec := "outTells", unfollowed := true, recurses := true, apart := false }
def OutTellsSaid : Prop := outTellsRow.holds Try.pinned (OpenSpec.ofChange outTellsSpec)

/-- ITS FALSE NEIGHBOUR: 'it returns false'. Refute it at one input. -/
def outTellsWrong : ChangeSpec := { name := "outTells", fn := fun _ => fun
  | [d1, d2, d3] => { results := [.lit (.bool false)], args := [d1, d2, d3] }
  | _ => none }
def OutTellsWrongFalsely : Prop := outTellsRow.holds Try.pinned (OpenSpec.ofChange outTellsWrong)

/-- 'switchbacklaw.OutGoes': WHATEVER THE INPUT: true; the input reads as it did. -/
def outGoesSpec : ChangeSpec := { name := "outGoes", fn := fun _ => fun
  | [d1, d2, d3] => { results := [.lit (.bool true)], args := [d1, d2, d3] }
  | _ => none }
def outGoesRow : OpenClaim := { program := "ytnpaejknoipicaf", sum := "38499282fd951e8b034e04db4816017a46130e4ac53a094f8d57d831f0c1b377", func := "switchback/switchbacklaw.OutGoes", spec := "outGoes", unfollowed := true, recurses := true, apart := false }
def OutGoesSaid : Prop := outGoesRow.holds Try.pinned (OpenSpec.ofChange outGoesSpec)

/-- ITS FALSE NEIGHBOUR: 'it returns false'. Refute it at one input. -/
def outGoesWrong : ChangeSpec := { name := "outGoes", fn := fun _ => fun
  | [d1, d2, d3] => { results := [.lit (.bool false)], args := [d1, d2, d3] }
  | _ => none }
def OutGoesWrongFalsely : Prop := outGoesRow.holds Try.pinned (OpenSpec.ofChange outGoesWrong)

/-- 'switchbacklaw.OutSteps': WHATEVER THE INPUT: true; the input reads as it did. -/
def outStepsSpec : ChangeSpec := { name := "outSteps", fn := fun _ => fun
  | [d1, d2, d3, d4] => { results := [.lit (.bool true)], args := [d1, d2, d3, d4] }
  | _ => none }
def outStepsRow : OpenClaim := { program := "ytnpaejknoipicaf", sum := "38499282fd951e8b034e04db4816017a46130e4ac53a094f8d57d831f0c1b377", func := "switchback/switchbacklaw.OutSteps", spec := "outSteps", unfollowed := true, recurses := true, apart := false }
def OutStepsSaid : Prop := outStepsRow.holds Try.pinned (OpenSpec.ofChange outStepsSpec)

/-- ITS FALSE NEIGHBOUR: 'it returns false'. Refute it at one input. -/
def outStepsWrong : ChangeSpec := { name := "outSteps", fn := fun _ => fun
  | [d1, d2, d3, d4] => { results := [.lit (.bool false)], args := [d1, d2, d3, d4] }
  | _ => none }
def OutStepsWrongFalsely : Prop := outStepsRow.holds Try.pinned (OpenSpec.ofChange outStepsWrong)

/-- 'switchbacklaw.TrackTwice': WHATEVER THE INPUT: true; the input reads as it did. -/
def trackTwiceSpec : ChangeSpec := { name := "trackTwice", fn := fun _ => fun
  | [d1, d2] => { results := [.lit (.bool true)], args := [d1, d2] }
  | _ => none }
def trackTwiceRow : OpenClaim := { program := "ytnpaejknoipicaf", sum := "38499282fd951e8b034e04db4816017a46130e4ac53a094f8d57d831f0c1b377", func := "switchback/switchbacklaw.TrackTwice", spec := "trackTwice", inPlace := ["slices.overlaps[switchback/api.Slot]"], unfollowed := true, recurses := true, apart := false }
def TrackTwiceSaid : Prop := trackTwiceRow.holds Try.pinned (OpenSpec.ofChange trackTwiceSpec)

/-- ITS FALSE NEIGHBOUR: 'it returns false'. Refute it at one input. -/
def trackTwiceWrong : ChangeSpec := { name := "trackTwice", fn := fun _ => fun
  | [d1, d2] => { results := [.lit (.bool false)], args := [d1, d2] }
  | _ => none }
def TrackTwiceWrongFalsely : Prop := trackTwiceRow.holds Try.pinned (OpenSpec.ofChange trackTwiceWrong)

/- THE SECOND FORM. 'bulk': how many values and letters a reading holds, each counted each time it is reached (what is shared counts as often as it is met; a slice's spare places count too). A statement '..UptoSaid' is the law's where the arguments, and the package variables that the reading takes, are together of bulk at most 1048576: NARROWER than '..Said'. Prove '..Said' where nothing that the law and all that it calls make is longer than what came in: it says more and counts as full. Else prove '..UptoSaid'. A law counts once. -/
mutual
def uptoBulk {H : Type} : DataW H → Nat
  | .lit (.string bytes) => bytes.length + 1
  | .lit _ => 1
  | .nil => 1
  | .ptr d => uptoBulk d + 1
  | .slice elems spare => uptoBulkAll elems + uptoBulkAll spare + 1
  | .agg parts => uptoBulkAll parts + 1
  | .iface _ d => uptoBulk d + 1
  | .map entries => uptoBulkEntries entries + 1
  | .held _ => 1
def uptoBulkAll {H : Type} : List (DataW H) → Nat
  | [] => 0
  | d :: r => uptoBulk d + uptoBulkAll r
def uptoBulkEntries {H : Type} : List (Lit × DataW H) → Nat
  | [] => 0
  | x :: r => uptoBulkEntry x + uptoBulkEntries r
def uptoBulkEntry {H : Type} : Lit × DataW H → Nat
  | (.string bytes, d) => bytes.length + uptoBulk d + 1
  | (_, d) => uptoBulk d + 1
 end
def uptoSmall : (H : Type) → List (DataW H) → Bool := fun _ ds => decide (uptoBulkAll ds ≤ 1048576)
def OpenSpec.upto (s : _root_.Go.ChangeSpec) : _root_.Go.OpenSpec := { _root_.Go.OpenSpec.ofChange s with cond := some uptoSmall }

/-- 'switchbacklaw.OutTells', WHERE WHAT IT READS IS OF BULK AT MOST 1048576: true; the input reads as it did. -/
def outTellsUptoRow : OpenClaim := { program := "ytnpaejknoipicaf", sum := "38499282fd951e8b034e04db4816017a46130e4ac53a094f8d57d831f0c1b377", func := "switchback/switchbacklaw.OutTells", spec := "outTells", unfollowed := true, recurses := true, apart := false, narrowed := true }
def OutTellsUptoSaid : Prop := outTellsUptoRow.holds Try.pinned (OpenSpec.upto outTellsSpec)

/-- 'switchbacklaw.OutGoes', WHERE WHAT IT READS IS OF BULK AT MOST 1048576: true; the input reads as it did. -/
def outGoesUptoRow : OpenClaim := { program := "ytnpaejknoipicaf", sum := "38499282fd951e8b034e04db4816017a46130e4ac53a094f8d57d831f0c1b377", func := "switchback/switchbacklaw.OutGoes", spec := "outGoes", unfollowed := true, recurses := true, apart := false, narrowed := true }
def OutGoesUptoSaid : Prop := outGoesUptoRow.holds Try.pinned (OpenSpec.upto outGoesSpec)

/-- 'switchbacklaw.OutSteps', WHERE WHAT IT READS IS OF BULK AT MOST 1048576: true; the input reads as it did. -/
def outStepsUptoRow : OpenClaim := { program := "ytnpaejknoipicaf", sum := "38499282fd951e8b034e04db4816017a46130e4ac53a094f8d57d831f0c1b377", func := "switchback/switchbacklaw.OutSteps", spec := "outSteps", unfollowed := true, recurses := true, apart := false, narrowed := true }
def OutStepsUptoSaid : Prop := outStepsUptoRow.holds Try.pinned (OpenSpec.upto outStepsSpec)

/-- 'switchbacklaw.TrackTwice', WHERE WHAT IT READS IS OF BULK AT MOST 1048576: true; the input reads as it did. -/
def trackTwiceUptoRow : OpenClaim := { program := "ytnpaejknoipicaf", sum := "38499282fd951e8b034e04db4816017a46130e4ac53a094f8d57d831f0c1b377", func := "switchback/switchbacklaw.TrackTwice", spec := "trackTwice", inPlace := ["slices.overlaps[switchback/api.Slot]"], unfollowed := true, recurses := true, apart := false, narrowed := true }
def TrackTwiceUptoSaid : Prop := trackTwiceUptoRow.holds Try.pinned (OpenSpec.upto trackTwiceSpec)

end Rows
end Go.Proofs.Ytnpaejknoipicaf
