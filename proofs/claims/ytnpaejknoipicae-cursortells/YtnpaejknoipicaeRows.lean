/-
  No cell of these rows narrows 'for every input' (looked for: loops, veiled, ifaces, maps, wideKeys, modest, calm, conditions, laid).
  DERIVED. THE GIVEN ROWS OF THIS SEAT. 6 by the template 'for every input the law returns true; each argument reads behind the call as it read before'; 0 by the template 'total and deterministic' (their statements: YtnpaejknoipicaeTotals.lean).
  GIVEN WITH THE SEED: the statements are not yours to turn. If you find one false, say at which input.
  Laid BY PROGRAM, IN A SANDBOX (cutbox-rows.mjs): the forced cells as the released guide's own fill.sh prints them over the translation 0e3b25074e202429… (all of the seat's roots in one cut). By AI agents, Wed Nov 11 2026. No macro, syntax, notation, axiom, sorry.
-/
import Derived.Test.YtnpaejknoipicaeChecked
import GoSem.Claim
import GoSem.ClaimJoined
import GoSem.ClaimMapViews
import Derived.JoinedTies
import Derived.KernelRfl
namespace Go.Proofs.Ytnpaejknoipicae
/- THE CELL 'sum', in the pinned program and in every row, IS THE sha256 OF THE DUMP (.gsa) THAT YtnpaejknoipicaeProg.lean LOADS. Nothing in Lean hashes anything: it is a label: what it is worth is what the hold of that sum in a sandbox is worth. -/
noncomputable def Try.pinned : Pinned := { name := "ytnpaejknoipicae", sum := "0e3b25074e20242906f9aacc0bb463f752dbf23f436ae2f8510fce444d1bc9bd", checked := Try.checked }
namespace Rows
def none {H : Type} : Left H := { results := [], args := [] }

/-- 'switchbacklaw.PaceReach': WHATEVER THE INPUT: true; the input reads as it did. -/
def paceReachSpec : ChangeSpec := { name := "paceReach", fn := fun _ => fun
  | [d1, d2, d3] => { results := [.lit (.bool true)], args := [d1, d2, d3] }
  | _ => none }
def paceReachRow : OpenClaim := { program := "ytnpaejknoipicae", sum := "0e3b25074e20242906f9aacc0bb463f752dbf23f436ae2f8510fce444d1bc9bd", func := "switchback/switchbacklaw.PaceReach", spec := "paceReach", apart := false }
def PaceReachSaid : Prop := paceReachRow.holds Try.pinned (OpenSpec.ofChange paceReachSpec)

/-- ITS FALSE NEIGHBOUR: 'it returns false'. Refute it at one input. -/
def paceReachWrong : ChangeSpec := { name := "paceReach", fn := fun _ => fun
  | [d1, d2, d3] => { results := [.lit (.bool false)], args := [d1, d2, d3] }
  | _ => none }
def PaceReachWrongFalsely : Prop := paceReachRow.holds Try.pinned (OpenSpec.ofChange paceReachWrong)

/-- 'switchbacklaw.PaceTurns': WHATEVER THE INPUT: true; the input reads as it did. -/
def paceTurnsSpec : ChangeSpec := { name := "paceTurns", fn := fun _ => fun
  | [d1, d2, d3] => { results := [.lit (.bool true)], args := [d1, d2, d3] }
  | _ => none }
def paceTurnsRow : OpenClaim := { program := "ytnpaejknoipicae", sum := "0e3b25074e20242906f9aacc0bb463f752dbf23f436ae2f8510fce444d1bc9bd", func := "switchback/switchbacklaw.PaceTurns", spec := "paceTurns", apart := false }
def PaceTurnsSaid : Prop := paceTurnsRow.holds Try.pinned (OpenSpec.ofChange paceTurnsSpec)

/-- ITS FALSE NEIGHBOUR: 'it returns false'. Refute it at one input. -/
def paceTurnsWrong : ChangeSpec := { name := "paceTurns", fn := fun _ => fun
  | [d1, d2, d3] => { results := [.lit (.bool false)], args := [d1, d2, d3] }
  | _ => none }
def PaceTurnsWrongFalsely : Prop := paceTurnsRow.holds Try.pinned (OpenSpec.ofChange paceTurnsWrong)

/-- 'switchbacklaw.CursorLive': WHATEVER THE INPUT: true; the input reads as it did. -/
def cursorLiveSpec : ChangeSpec := { name := "cursorLive", fn := fun _ => fun
  | [d1, d2] => { results := [.lit (.bool true)], args := [d1, d2] }
  | _ => none }
def cursorLiveRow : OpenClaim := { program := "ytnpaejknoipicae", sum := "0e3b25074e20242906f9aacc0bb463f752dbf23f436ae2f8510fce444d1bc9bd", func := "switchback/switchbacklaw.CursorLive", spec := "cursorLive", unfollowed := true, recurses := true, apart := false }
def CursorLiveSaid : Prop := cursorLiveRow.holds Try.pinned (OpenSpec.ofChange cursorLiveSpec)

/-- ITS FALSE NEIGHBOUR: 'it returns false'. Refute it at one input. -/
def cursorLiveWrong : ChangeSpec := { name := "cursorLive", fn := fun _ => fun
  | [d1, d2] => { results := [.lit (.bool false)], args := [d1, d2] }
  | _ => none }
def CursorLiveWrongFalsely : Prop := cursorLiveRow.holds Try.pinned (OpenSpec.ofChange cursorLiveWrong)

/-- 'switchbacklaw.CursorTells': WHATEVER THE INPUT: true; the input reads as it did. -/
def cursorTellsSpec : ChangeSpec := { name := "cursorTells", fn := fun _ => fun
  | [d1, d2, d3, d4] => { results := [.lit (.bool true)], args := [d1, d2, d3, d4] }
  | _ => none }
def cursorTellsRow : OpenClaim := { program := "ytnpaejknoipicae", sum := "0e3b25074e20242906f9aacc0bb463f752dbf23f436ae2f8510fce444d1bc9bd", func := "switchback/switchbacklaw.CursorTells", spec := "cursorTells", unfollowed := true, recurses := true, apart := false }
def CursorTellsSaid : Prop := cursorTellsRow.holds Try.pinned (OpenSpec.ofChange cursorTellsSpec)

/-- ITS FALSE NEIGHBOUR: 'it returns false'. Refute it at one input. -/
def cursorTellsWrong : ChangeSpec := { name := "cursorTells", fn := fun _ => fun
  | [d1, d2, d3, d4] => { results := [.lit (.bool false)], args := [d1, d2, d3, d4] }
  | _ => none }
def CursorTellsWrongFalsely : Prop := cursorTellsRow.holds Try.pinned (OpenSpec.ofChange cursorTellsWrong)

/-- 'switchbacklaw.CursorOrder': WHATEVER THE INPUT: true; the input reads as it did. -/
def cursorOrderSpec : ChangeSpec := { name := "cursorOrder", fn := fun _ => fun
  | [d1, d2] => { results := [.lit (.bool true)], args := [d1, d2] }
  | _ => none }
def cursorOrderRow : OpenClaim := { program := "ytnpaejknoipicae", sum := "0e3b25074e20242906f9aacc0bb463f752dbf23f436ae2f8510fce444d1bc9bd", func := "switchback/switchbacklaw.CursorOrder", spec := "cursorOrder", unfollowed := true, recurses := true, apart := false }
def CursorOrderSaid : Prop := cursorOrderRow.holds Try.pinned (OpenSpec.ofChange cursorOrderSpec)

/-- ITS FALSE NEIGHBOUR: 'it returns false'. Refute it at one input. -/
def cursorOrderWrong : ChangeSpec := { name := "cursorOrder", fn := fun _ => fun
  | [d1, d2] => { results := [.lit (.bool false)], args := [d1, d2] }
  | _ => none }
def CursorOrderWrongFalsely : Prop := cursorOrderRow.holds Try.pinned (OpenSpec.ofChange cursorOrderWrong)

/-- 'switchbacklaw.CursorKey': WHATEVER THE INPUT: true; the input reads as it did. -/
def cursorKeySpec : ChangeSpec := { name := "cursorKey", fn := fun _ => fun
  | [d1, d2, d3, d4] => { results := [.lit (.bool true)], args := [d1, d2, d3, d4] }
  | _ => none }
def cursorKeyRow : OpenClaim := { program := "ytnpaejknoipicae", sum := "0e3b25074e20242906f9aacc0bb463f752dbf23f436ae2f8510fce444d1bc9bd", func := "switchback/switchbacklaw.CursorKey", spec := "cursorKey", unfollowed := true, recurses := true, apart := false }
def CursorKeySaid : Prop := cursorKeyRow.holds Try.pinned (OpenSpec.ofChange cursorKeySpec)

/-- ITS FALSE NEIGHBOUR: 'it returns false'. Refute it at one input. -/
def cursorKeyWrong : ChangeSpec := { name := "cursorKey", fn := fun _ => fun
  | [d1, d2, d3, d4] => { results := [.lit (.bool false)], args := [d1, d2, d3, d4] }
  | _ => none }
def CursorKeyWrongFalsely : Prop := cursorKeyRow.holds Try.pinned (OpenSpec.ofChange cursorKeyWrong)

/- THE SECOND FORM. 'bulk': how many values and letters a reading holds, each counted each time it is reached (what is shared counts as often as it is met; a slice's spare places count too). A statement '..UptoSaid' is the law's where the arguments, and the package variables that the reading takes, are together of bulk at most 1048576: NARROWER than '..Said'. Prove '..Said' where nothing that the law and all that it calls make is longer than what came in: it says more and counts as full. Else prove '..UptoSaid'. A law counts once. -/
mutual
def uptoBulk {H : Type} : DataW H → Nat
  | .lit (.string bytes) => bytes.length + 1
  | .lit _ => 1
  | .nil => 1
  | .ptr d => uptoBulk d + 1
  | .slice elems spare => uptoBulkAll elems + uptoBulkAll spare + 1
  | .agg parts => uptoBulkAll parts + 1
  | .iface _ d => uptoBulk d + 1
  | .map entries => uptoBulkEntries entries + 1
  | .held _ => 1
def uptoBulkAll {H : Type} : List (DataW H) → Nat
  | [] => 0
  | d :: r => uptoBulk d + uptoBulkAll r
def uptoBulkEntries {H : Type} : List (Lit × DataW H) → Nat
  | [] => 0
  | x :: r => uptoBulkEntry x + uptoBulkEntries r
def uptoBulkEntry {H : Type} : Lit × DataW H → Nat
  | (.string bytes, d) => bytes.length + uptoBulk d + 1
  | (_, d) => uptoBulk d + 1
 end
def uptoSmall : (H : Type) → List (DataW H) → Bool := fun _ ds => decide (uptoBulkAll ds ≤ 1048576)
def OpenSpec.upto (s : _root_.Go.ChangeSpec) : _root_.Go.OpenSpec := { _root_.Go.OpenSpec.ofChange s with cond := some uptoSmall }

/-- 'switchbacklaw.PaceReach', WHERE WHAT IT READS IS OF BULK AT MOST 1048576: true; the input reads as it did. -/
def paceReachUptoRow : OpenClaim := { program := "ytnpaejknoipicae", sum := "0e3b25074e20242906f9aacc0bb463f752dbf23f436ae2f8510fce444d1bc9bd", func := "switchback/switchbacklaw.PaceReach", spec := "paceReach", apart := false, narrowed := true }
def PaceReachUptoSaid : Prop := paceReachUptoRow.holds Try.pinned (OpenSpec.upto paceReachSpec)

/-- 'switchbacklaw.PaceTurns', WHERE WHAT IT READS IS OF BULK AT MOST 1048576: true; the input reads as it did. -/
def paceTurnsUptoRow : OpenClaim := { program := "ytnpaejknoipicae", sum := "0e3b25074e20242906f9aacc0bb463f752dbf23f436ae2f8510fce444d1bc9bd", func := "switchback/switchbacklaw.PaceTurns", spec := "paceTurns", apart := false, narrowed := true }
def PaceTurnsUptoSaid : Prop := paceTurnsUptoRow.holds Try.pinned (OpenSpec.upto paceTurnsSpec)

/-- 'switchbacklaw.CursorLive', WHERE WHAT IT READS IS OF BULK AT MOST 1048576: true; the input reads as it did. -/
def cursorLiveUptoRow : OpenClaim := { program := "ytnpaejknoipicae", sum := "0e3b25074e20242906f9aacc0bb463f752dbf23f436ae2f8510fce444d1bc9bd", func := "switchback/switchbacklaw.CursorLive", spec := "cursorLive", unfollowed := true, recurses := true, apart := false, narrowed := true }
def CursorLiveUptoSaid : Prop := cursorLiveUptoRow.holds Try.pinned (OpenSpec.upto cursorLiveSpec)

/-- 'switchbacklaw.CursorTells', WHERE WHAT IT READS IS OF BULK AT MOST 1048576: true; the input reads as it did. -/
def cursorTellsUptoRow : OpenClaim := { program := "ytnpaejknoipicae", sum := "0e3b25074e20242906f9aacc0bb463f752dbf23f436ae2f8510fce444d1bc9bd", func := "switchback/switchbacklaw.CursorTells", spec := "cursorTells", unfollowed := true, recurses := true, apart := false, narrowed := true }
def CursorTellsUptoSaid : Prop := cursorTellsUptoRow.holds Try.pinned (OpenSpec.upto cursorTellsSpec)

/-- 'switchbacklaw.CursorOrder', WHERE WHAT IT READS IS OF BULK AT MOST 1048576: true; the input reads as it did. -/
def cursorOrderUptoRow : OpenClaim := { program := "ytnpaejknoipicae", sum := "0e3b25074e20242906f9aacc0bb463f752dbf23f436ae2f8510fce444d1bc9bd", func := "switchback/switchbacklaw.CursorOrder", spec := "cursorOrder", unfollowed := true, recurses := true, apart := false, narrowed := true }
def CursorOrderUptoSaid : Prop := cursorOrderUptoRow.holds Try.pinned (OpenSpec.upto cursorOrderSpec)

/-- 'switchbacklaw.CursorKey', WHERE WHAT IT READS IS OF BULK AT MOST 1048576: true; the input reads as it did. -/
def cursorKeyUptoRow : OpenClaim := { program := "ytnpaejknoipicae", sum := "0e3b25074e20242906f9aacc0bb463f752dbf23f436ae2f8510fce444d1bc9bd", func := "switchback/switchbacklaw.CursorKey", spec := "cursorKey", unfollowed := true, recurses := true, apart := false, narrowed := true }
def CursorKeyUptoSaid : Prop := cursorKeyUptoRow.holds Try.pinned (OpenSpec.upto cursorKeySpec)

end Rows
end Go.Proofs.Ytnpaejknoipicae
