/-
  No cell of these rows narrows 'for every input' (looked for: loops, veiled, ifaces, maps, wideKeys, modest, calm, conditions, laid).
  DERIVED. THE GIVEN ROWS OF THIS SEAT. 2 by the template 'for every input the law returns true; each argument reads behind the call as it read before'; 0 by the template 'total and deterministic' (their statements: YtnpaejknoipicafGreatTotals.lean).
  GIVEN WITH THE SEED: the statements are not yours to turn. If you find one false, say at which input.
  Laid BY PROGRAM, IN A SANDBOX (cutbox-rows.mjs): the forced cells as the released guide's own fill.sh prints them over the translation 32cba4f0ee1406a3… (all of the seat's roots in one cut). By AI agents, Wed Nov 11 2026. No macro, syntax, notation, axiom, sorry.
-/
import Derived.Test.YtnpaejknoipicafGreatChecked
import GoSem.Claim
import GoSem.ClaimJoined
import GoSem.ClaimMapViews
import Derived.JoinedTies
import Derived.KernelRfl
namespace Go.Proofs.YtnpaejknoipicafGreat
/- THE CELL 'sum', in the pinned program and in every row, IS THE sha256 OF THE DUMP (.gsa) THAT YtnpaejknoipicafGreatProg.lean LOADS. Nothing in Lean hashes anything: it is a label: what it is worth is what the hold of that sum in a sandbox is worth. -/
noncomputable def Tryz.pinned : Pinned := { name := "ytnpaejknoipicafgreat", sum := "32cba4f0ee1406a3922b22fcd02cdb68750b07fbdf480185e591bedb13ecdb7c", checked := Tryz.checked }
namespace Rows
def none {H : Type} : Left H := { results := [], args := [] }

/-- 'switchbacklaw.RestStores': WHATEVER THE INPUT: true; the input reads as it did. -/
def restStoresSpec : ChangeSpec := { name := "restStores", fn := fun _ => fun
  | [d1, d2, d3, d4] => { results := [.lit (.bool true)], args := [d1, d2, d3, d4] }
  | _ => none }
def restStoresRow : OpenClaim := { program := "ytnpaejknoipicafgreat", sum := "32cba4f0ee1406a3922b22fcd02cdb68750b07fbdf480185e591bedb13ecdb7c", func := "switchback/switchbacklaw.RestStores", spec := "restStores", unfollowed := true, recurses := true, apart := false }
def RestStoresSaid : Prop := restStoresRow.holds Tryz.pinned (OpenSpec.ofChange restStoresSpec)

/-- ITS FALSE NEIGHBOUR: 'it returns false'. Refute it at one input. -/
def restStoresWrong : ChangeSpec := { name := "restStores", fn := fun _ => fun
  | [d1, d2, d3, d4] => { results := [.lit (.bool false)], args := [d1, d2, d3, d4] }
  | _ => none }
def RestStoresWrongFalsely : Prop := restStoresRow.holds Tryz.pinned (OpenSpec.ofChange restStoresWrong)

/-- 'switchbacklaw.TrackTells': WHATEVER THE INPUT: true; the input reads as it did. -/
def trackTellsSpec : ChangeSpec := { name := "trackTells", fn := fun _ => fun
  | [d1, d2] => { results := [.lit (.bool true)], args := [d1, d2] }
  | _ => none }
def trackTellsRow : OpenClaim := { program := "ytnpaejknoipicafgreat", sum := "32cba4f0ee1406a3922b22fcd02cdb68750b07fbdf480185e591bedb13ecdb7c", func := "switchback/switchbacklaw.TrackTells", spec := "trackTells", inPlace := ["slices.overlaps[switchback/api.Slot]"], unfollowed := true, recurses := true, apart := false }
def TrackTellsSaid : Prop := trackTellsRow.holds Tryz.pinned (OpenSpec.ofChange trackTellsSpec)

/-- ITS FALSE NEIGHBOUR: 'it returns false'. Refute it at one input. -/
def trackTellsWrong : ChangeSpec := { name := "trackTells", fn := fun _ => fun
  | [d1, d2] => { results := [.lit (.bool false)], args := [d1, d2] }
  | _ => none }
def TrackTellsWrongFalsely : Prop := trackTellsRow.holds Tryz.pinned (OpenSpec.ofChange trackTellsWrong)

/- THE SECOND FORM. 'bulk': how many values and letters a reading holds, each counted each time it is reached (what is shared counts as often as it is met; a slice's spare places count too). A statement '..UptoSaid' is the law's where the arguments, and the package variables that the reading takes, are together of bulk at most 1048576: NARROWER than '..Said'. Prove '..Said' where nothing that the law and all that it calls make is longer than what came in: it says more and counts as full. Else prove '..UptoSaid'. A law counts once. -/
mutual
def uptoBulk {H : Type} : DataW H → Nat
  | .lit (.string bytes) => bytes.length + 1
  | .lit _ => 1
  | .nil => 1
  | .ptr d => uptoBulk d + 1
  | .slice elems spare => uptoBulkAll elems + uptoBulkAll spare + 1
  | .agg parts => uptoBulkAll parts + 1
  | .iface _ d => uptoBulk d + 1
  | .map entries => uptoBulkEntries entries + 1
  | .held _ => 1
def uptoBulkAll {H : Type} : List (DataW H) → Nat
  | [] => 0
  | d :: r => uptoBulk d + uptoBulkAll r
def uptoBulkEntries {H : Type} : List (Lit × DataW H) → Nat
  | [] => 0
  | x :: r => uptoBulkEntry x + uptoBulkEntries r
def uptoBulkEntry {H : Type} : Lit × DataW H → Nat
  | (.string bytes, d) => bytes.length + uptoBulk d + 1
  | (_, d) => uptoBulk d + 1
 end
def uptoSmall : (H : Type) → List (DataW H) → Bool := fun _ ds => decide (uptoBulkAll ds ≤ 1048576)
def OpenSpec.upto (s : _root_.Go.ChangeSpec) : _root_.Go.OpenSpec := { _root_.Go.OpenSpec.ofChange s with cond := some uptoSmall }

/-- 'switchbacklaw.RestStores', WHERE WHAT IT READS IS OF BULK AT MOST 1048576: true; the input reads as it did. -/
def restStoresUptoRow : OpenClaim := { program := "ytnpaejknoipicafgreat", sum := "32cba4f0ee1406a3922b22fcd02cdb68750b07fbdf480185e591bedb13ecdb7c", func := "switchback/switchbacklaw.RestStores", spec := "restStores", unfollowed := true, recurses := true, apart := false, narrowed := true }
def RestStoresUptoSaid : Prop := restStoresUptoRow.holds Tryz.pinned (OpenSpec.upto restStoresSpec)

/-- 'switchbacklaw.TrackTells', WHERE WHAT IT READS IS OF BULK AT MOST 1048576: true; the input reads as it did. -/
def trackTellsUptoRow : OpenClaim := { program := "ytnpaejknoipicafgreat", sum := "32cba4f0ee1406a3922b22fcd02cdb68750b07fbdf480185e591bedb13ecdb7c", func := "switchback/switchbacklaw.TrackTells", spec := "trackTells", inPlace := ["slices.overlaps[switchback/api.Slot]"], unfollowed := true, recurses := true, apart := false, narrowed := true }
def TrackTellsUptoSaid : Prop := trackTellsUptoRow.holds Tryz.pinned (OpenSpec.upto trackTellsSpec)

end Rows
end Go.Proofs.YtnpaejknoipicafGreat
