/-
  NARROWER THAN 'FOR EVERY INPUT', by the rows' own cells (each row's printed sentence says how): HoldsAll: laid · HoldsOnce: laid · HoldsBack: laid · HoldsEnds: laid · HoldsLooks: laid.
  DERIVED. THE GIVEN ROWS OF THIS SEAT. 5 by the template 'for every input the law returns true; each argument reads behind the call as it read before'; 0 by the template 'total and deterministic' (their statements: YtkdndfdofhnagaaDoorTotals.lean).
  GIVEN WITH THE SEED: the statements are not yours to turn. If you find one false, say at which input.
  Laid BY PROGRAM, IN A SANDBOX (cutbox-rows.mjs): the forced cells as the released guide's own fill.sh prints them over the translation 7ff3d3d8c54935ef… (all of the seat's roots in one cut). By AI agents, Wed Nov 11 2026. No macro, syntax, notation, axiom, sorry.
-/
import Derived.Test.YtkdndfdofhnagaaDoorChecked
import GoSem.Claim
import GoSem.ClaimJoined
import GoSem.ClaimMapViews
import Derived.JoinedTies
import Derived.KernelRfl
namespace Go.Proofs.YtkdndfdofhnagaaDoor
/- THE CELL 'sum', in the pinned program and in every row, IS THE sha256 OF THE DUMP (.gsa) THAT YtkdndfdofhnagaaDoorProg.lean LOADS. Nothing in Lean hashes anything: it is a label: what it is worth is what the hold of that sum in a sandbox is worth. -/
noncomputable def Tryd.pinned : Pinned := { name := "ytkdndfdofhnagaadoor", sum := "7ff3d3d8c54935ef43f958acc59e9386e7bb83d2beef0846bd000ae46c915ae6", checked := Tryd.checked }
namespace Rows
def none {H : Type} : Left H := { results := [], args := [] }

/- WHAT THE LISTED PACKAGE-LEVEL VARIABLES READ AS WHEN THE CALL BEGINS. Each datum BY PROGRAM (the guide's laid-datum.mjs) off the statement by which the dump's own 'gosem.cut.vars' lays the variable. In a bare row this is a premise. The card (YtkdndfdofhnagaaDoorCards.lean) ties it to the program's text. -/
def laid_sluice_ledger_errArg {H : Type} : DataW H := .iface "*errors.errorString" (.ptr (.agg [.lit (.string [108, 101, 100, 103, 101, 114, 58, 32, 97, 32, 110, 117, 109, 98, 101, 114, 32, 116, 104, 97, 116, 32, 109, 97, 121, 32, 110, 111, 116, 32, 98, 101])]))
def laid_sluice_ledger_errRights {H : Type} : DataW H := .iface "*errors.errorString" (.ptr (.agg [.lit (.string [108, 101, 100, 103, 101, 114, 58, 32, 102, 101, 119, 101, 114, 32, 114, 105, 103, 104, 116, 115, 32, 116, 104, 97, 110, 32, 97, 114, 101, 32, 97, 115, 107, 101, 100, 32, 102, 111, 114])]))
def laid_sluice_ledger_errCap {H : Type} : DataW H := .iface "*errors.errorString" (.ptr (.agg [.lit (.string [108, 101, 100, 103, 101, 114, 58, 32, 109, 111, 114, 101, 32, 116, 104, 97, 110, 32, 116, 104, 101, 32, 99, 97, 112, 32, 104, 97, 115, 32, 114, 111, 111, 109, 32, 102, 111, 114])]))

/-- 'sluicelaw7.HoldsAll': WHATEVER THE INPUT: true; the input reads as it did. -/
def holdsAllSpec : ChangeSpec := { name := "holdsAll", fn := fun _ => fun
  | [d1, d2, d3, d4] => { results := [.lit (.bool true)], args := [d1, d2, d3, d4] }
  | _ => none }
def holdsAllRow : OpenClaim := { program := "ytkdndfdofhnagaadoor", sum := "7ff3d3d8c54935ef43f958acc59e9386e7bb83d2beef0846bd000ae46c915ae6", func := "sluice/sluicelaw7.HoldsAll", spec := "holdsAll", inPlace := ["internal/reflectlite.TypeOf"], unfollowed := true, recurses := true, named := ["sluice/ledger.errArg", "sluice/ledger.errRights", "sluice/ledger.errCap"], plainKeys := false, apart := false, laid := [("sluice/ledger.errArg", laid_sluice_ledger_errArg), ("sluice/ledger.errRights", laid_sluice_ledger_errRights), ("sluice/ledger.errCap", laid_sluice_ledger_errCap)] }
def HoldsAllSaid : Prop := holdsAllRow.holds Tryd.pinned (OpenSpec.ofChange holdsAllSpec)

/-- ITS FALSE NEIGHBOUR: 'it returns false'. Refute it at one input. -/
def holdsAllWrong : ChangeSpec := { name := "holdsAll", fn := fun _ => fun
  | [d1, d2, d3, d4] => { results := [.lit (.bool false)], args := [d1, d2, d3, d4] }
  | _ => none }
def HoldsAllWrongFalsely : Prop := holdsAllRow.holds Tryd.pinned (OpenSpec.ofChange holdsAllWrong)

/-- 'sluicelaw7.HoldsOnce': WHATEVER THE INPUT: true; the input reads as it did. -/
def holdsOnceSpec : ChangeSpec := { name := "holdsOnce", fn := fun _ => fun
  | [d1, d2, d3] => { results := [.lit (.bool true)], args := [d1, d2, d3] }
  | _ => none }
def holdsOnceRow : OpenClaim := { program := "ytkdndfdofhnagaadoor", sum := "7ff3d3d8c54935ef43f958acc59e9386e7bb83d2beef0846bd000ae46c915ae6", func := "sluice/sluicelaw7.HoldsOnce", spec := "holdsOnce", inPlace := ["internal/reflectlite.TypeOf"], unfollowed := true, recurses := true, named := ["sluice/ledger.errArg", "sluice/ledger.errRights", "sluice/ledger.errCap"], plainKeys := false, apart := false, laid := [("sluice/ledger.errArg", laid_sluice_ledger_errArg), ("sluice/ledger.errRights", laid_sluice_ledger_errRights), ("sluice/ledger.errCap", laid_sluice_ledger_errCap)] }
def HoldsOnceSaid : Prop := holdsOnceRow.holds Tryd.pinned (OpenSpec.ofChange holdsOnceSpec)

/-- ITS FALSE NEIGHBOUR: 'it returns false'. Refute it at one input. -/
def holdsOnceWrong : ChangeSpec := { name := "holdsOnce", fn := fun _ => fun
  | [d1, d2, d3] => { results := [.lit (.bool false)], args := [d1, d2, d3] }
  | _ => none }
def HoldsOnceWrongFalsely : Prop := holdsOnceRow.holds Tryd.pinned (OpenSpec.ofChange holdsOnceWrong)

/-- 'sluicelaw7.HoldsBack': WHATEVER THE INPUT: true; the input reads as it did. -/
def holdsBackSpec : ChangeSpec := { name := "holdsBack", fn := fun _ => fun
  | [d1, d2] => { results := [.lit (.bool true)], args := [d1, d2] }
  | _ => none }
def holdsBackRow : OpenClaim := { program := "ytkdndfdofhnagaadoor", sum := "7ff3d3d8c54935ef43f958acc59e9386e7bb83d2beef0846bd000ae46c915ae6", func := "sluice/sluicelaw7.HoldsBack", spec := "holdsBack", inPlace := ["internal/reflectlite.TypeOf"], unfollowed := true, recurses := true, named := ["sluice/ledger.errArg", "sluice/ledger.errRights", "sluice/ledger.errCap"], plainKeys := false, apart := false, laid := [("sluice/ledger.errArg", laid_sluice_ledger_errArg), ("sluice/ledger.errRights", laid_sluice_ledger_errRights), ("sluice/ledger.errCap", laid_sluice_ledger_errCap)] }
def HoldsBackSaid : Prop := holdsBackRow.holds Tryd.pinned (OpenSpec.ofChange holdsBackSpec)

/-- ITS FALSE NEIGHBOUR: 'it returns false'. Refute it at one input. -/
def holdsBackWrong : ChangeSpec := { name := "holdsBack", fn := fun _ => fun
  | [d1, d2] => { results := [.lit (.bool false)], args := [d1, d2] }
  | _ => none }
def HoldsBackWrongFalsely : Prop := holdsBackRow.holds Tryd.pinned (OpenSpec.ofChange holdsBackWrong)

/-- 'sluicelaw7.HoldsEnds': WHATEVER THE INPUT: true; the input reads as it did. -/
def holdsEndsSpec : ChangeSpec := { name := "holdsEnds", fn := fun _ => fun
  | [d1, d2, d3] => { results := [.lit (.bool true)], args := [d1, d2, d3] }
  | _ => none }
def holdsEndsRow : OpenClaim := { program := "ytkdndfdofhnagaadoor", sum := "7ff3d3d8c54935ef43f958acc59e9386e7bb83d2beef0846bd000ae46c915ae6", func := "sluice/sluicelaw7.HoldsEnds", spec := "holdsEnds", inPlace := ["internal/reflectlite.TypeOf"], unfollowed := true, recurses := true, named := ["sluice/ledger.errArg", "sluice/ledger.errRights", "sluice/ledger.errCap"], plainKeys := false, apart := false, laid := [("sluice/ledger.errArg", laid_sluice_ledger_errArg), ("sluice/ledger.errRights", laid_sluice_ledger_errRights), ("sluice/ledger.errCap", laid_sluice_ledger_errCap)] }
def HoldsEndsSaid : Prop := holdsEndsRow.holds Tryd.pinned (OpenSpec.ofChange holdsEndsSpec)

/-- ITS FALSE NEIGHBOUR: 'it returns false'. Refute it at one input. -/
def holdsEndsWrong : ChangeSpec := { name := "holdsEnds", fn := fun _ => fun
  | [d1, d2, d3] => { results := [.lit (.bool false)], args := [d1, d2, d3] }
  | _ => none }
def HoldsEndsWrongFalsely : Prop := holdsEndsRow.holds Tryd.pinned (OpenSpec.ofChange holdsEndsWrong)

/-- 'sluicelaw7.HoldsLooks': WHATEVER THE INPUT: true; the input reads as it did. -/
def holdsLooksSpec : ChangeSpec := { name := "holdsLooks", fn := fun _ => fun
  | [d1, d2, d3] => { results := [.lit (.bool true)], args := [d1, d2, d3] }
  | _ => none }
def holdsLooksRow : OpenClaim := { program := "ytkdndfdofhnagaadoor", sum := "7ff3d3d8c54935ef43f958acc59e9386e7bb83d2beef0846bd000ae46c915ae6", func := "sluice/sluicelaw7.HoldsLooks", spec := "holdsLooks", inPlace := ["internal/reflectlite.TypeOf"], unfollowed := true, recurses := true, named := ["sluice/ledger.errArg", "sluice/ledger.errRights", "sluice/ledger.errCap"], plainKeys := false, apart := false, laid := [("sluice/ledger.errArg", laid_sluice_ledger_errArg), ("sluice/ledger.errRights", laid_sluice_ledger_errRights), ("sluice/ledger.errCap", laid_sluice_ledger_errCap)] }
def HoldsLooksSaid : Prop := holdsLooksRow.holds Tryd.pinned (OpenSpec.ofChange holdsLooksSpec)

/-- ITS FALSE NEIGHBOUR: 'it returns false'. Refute it at one input. -/
def holdsLooksWrong : ChangeSpec := { name := "holdsLooks", fn := fun _ => fun
  | [d1, d2, d3] => { results := [.lit (.bool false)], args := [d1, d2, d3] }
  | _ => none }
def HoldsLooksWrongFalsely : Prop := holdsLooksRow.holds Tryd.pinned (OpenSpec.ofChange holdsLooksWrong)

/- THE SECOND FORM. 'bulk': how many values and letters a reading holds, each counted each time it is reached (what is shared counts as often as it is met; a slice's spare places count too). A statement '..UptoSaid' is the law's where the arguments, and the package variables that the reading takes, are together of bulk at most 1048576: NARROWER than '..Said'. Prove '..Said' where nothing that the law and all that it calls make is longer than what came in: it says more and counts as full. Else prove '..UptoSaid'. A law counts once. -/
mutual
def uptoBulk {H : Type} : DataW H → Nat
  | .lit (.string bytes) => bytes.length + 1
  | .lit _ => 1
  | .nil => 1
  | .ptr d => uptoBulk d + 1
  | .slice elems spare => uptoBulkAll elems + uptoBulkAll spare + 1
  | .agg parts => uptoBulkAll parts + 1
  | .iface _ d => uptoBulk d + 1
  | .map entries => uptoBulkEntries entries + 1
  | .held _ => 1
def uptoBulkAll {H : Type} : List (DataW H) → Nat
  | [] => 0
  | d :: r => uptoBulk d + uptoBulkAll r
def uptoBulkEntries {H : Type} : List (Lit × DataW H) → Nat
  | [] => 0
  | x :: r => uptoBulkEntry x + uptoBulkEntries r
def uptoBulkEntry {H : Type} : Lit × DataW H → Nat
  | (.string bytes, d) => bytes.length + uptoBulk d + 1
  | (_, d) => uptoBulk d + 1
 end
def uptoSmall : (H : Type) → List (DataW H) → Bool := fun _ ds => decide (uptoBulkAll ds ≤ 1048576)
def OpenSpec.upto (s : _root_.Go.ChangeSpec) : _root_.Go.OpenSpec := { _root_.Go.OpenSpec.ofChange s with cond := some uptoSmall }

/-- 'sluicelaw7.HoldsAll', WHERE WHAT IT READS IS OF BULK AT MOST 1048576: true; the input reads as it did. -/
def holdsAllUptoRow : OpenClaim := { program := "ytkdndfdofhnagaadoor", sum := "7ff3d3d8c54935ef43f958acc59e9386e7bb83d2beef0846bd000ae46c915ae6", func := "sluice/sluicelaw7.HoldsAll", spec := "holdsAll", inPlace := ["internal/reflectlite.TypeOf"], unfollowed := true, recurses := true, named := ["sluice/ledger.errArg", "sluice/ledger.errRights", "sluice/ledger.errCap"], plainKeys := false, apart := false, laid := [("sluice/ledger.errArg", laid_sluice_ledger_errArg), ("sluice/ledger.errRights", laid_sluice_ledger_errRights), ("sluice/ledger.errCap", laid_sluice_ledger_errCap)], narrowed := true }
def HoldsAllUptoSaid : Prop := holdsAllUptoRow.holds Tryd.pinned (OpenSpec.upto holdsAllSpec)

/-- 'sluicelaw7.HoldsOnce', WHERE WHAT IT READS IS OF BULK AT MOST 1048576: true; the input reads as it did. -/
def holdsOnceUptoRow : OpenClaim := { program := "ytkdndfdofhnagaadoor", sum := "7ff3d3d8c54935ef43f958acc59e9386e7bb83d2beef0846bd000ae46c915ae6", func := "sluice/sluicelaw7.HoldsOnce", spec := "holdsOnce", inPlace := ["internal/reflectlite.TypeOf"], unfollowed := true, recurses := true, named := ["sluice/ledger.errArg", "sluice/ledger.errRights", "sluice/ledger.errCap"], plainKeys := false, apart := false, laid := [("sluice/ledger.errArg", laid_sluice_ledger_errArg), ("sluice/ledger.errRights", laid_sluice_ledger_errRights), ("sluice/ledger.errCap", laid_sluice_ledger_errCap)], narrowed := true }
def HoldsOnceUptoSaid : Prop := holdsOnceUptoRow.holds Tryd.pinned (OpenSpec.upto holdsOnceSpec)

/-- 'sluicelaw7.HoldsBack', WHERE WHAT IT READS IS OF BULK AT MOST 1048576: true; the input reads as it did. -/
def holdsBackUptoRow : OpenClaim := { program := "ytkdndfdofhnagaadoor", sum := "7ff3d3d8c54935ef43f958acc59e9386e7bb83d2beef0846bd000ae46c915ae6", func := "sluice/sluicelaw7.HoldsBack", spec := "holdsBack", inPlace := ["internal/reflectlite.TypeOf"], unfollowed := true, recurses := true, named := ["sluice/ledger.errArg", "sluice/ledger.errRights", "sluice/ledger.errCap"], plainKeys := false, apart := false, laid := [("sluice/ledger.errArg", laid_sluice_ledger_errArg), ("sluice/ledger.errRights", laid_sluice_ledger_errRights), ("sluice/ledger.errCap", laid_sluice_ledger_errCap)], narrowed := true }
def HoldsBackUptoSaid : Prop := holdsBackUptoRow.holds Tryd.pinned (OpenSpec.upto holdsBackSpec)

/-- 'sluicelaw7.HoldsEnds', WHERE WHAT IT READS IS OF BULK AT MOST 1048576: true; the input reads as it did. -/
def holdsEndsUptoRow : OpenClaim := { program := "ytkdndfdofhnagaadoor", sum := "7ff3d3d8c54935ef43f958acc59e9386e7bb83d2beef0846bd000ae46c915ae6", func := "sluice/sluicelaw7.HoldsEnds", spec := "holdsEnds", inPlace := ["internal/reflectlite.TypeOf"], unfollowed := true, recurses := true, named := ["sluice/ledger.errArg", "sluice/ledger.errRights", "sluice/ledger.errCap"], plainKeys := false, apart := false, laid := [("sluice/ledger.errArg", laid_sluice_ledger_errArg), ("sluice/ledger.errRights", laid_sluice_ledger_errRights), ("sluice/ledger.errCap", laid_sluice_ledger_errCap)], narrowed := true }
def HoldsEndsUptoSaid : Prop := holdsEndsUptoRow.holds Tryd.pinned (OpenSpec.upto holdsEndsSpec)

/-- 'sluicelaw7.HoldsLooks', WHERE WHAT IT READS IS OF BULK AT MOST 1048576: true; the input reads as it did. -/
def holdsLooksUptoRow : OpenClaim := { program := "ytkdndfdofhnagaadoor", sum := "7ff3d3d8c54935ef43f958acc59e9386e7bb83d2beef0846bd000ae46c915ae6", func := "sluice/sluicelaw7.HoldsLooks", spec := "holdsLooks", inPlace := ["internal/reflectlite.TypeOf"], unfollowed := true, recurses := true, named := ["sluice/ledger.errArg", "sluice/ledger.errRights", "sluice/ledger.errCap"], plainKeys := false, apart := false, laid := [("sluice/ledger.errArg", laid_sluice_ledger_errArg), ("sluice/ledger.errRights", laid_sluice_ledger_errRights), ("sluice/ledger.errCap", laid_sluice_ledger_errCap)], narrowed := true }
def HoldsLooksUptoSaid : Prop := holdsLooksUptoRow.holds Tryd.pinned (OpenSpec.upto holdsLooksSpec)

end Rows
end Go.Proofs.YtkdndfdofhnagaaDoor
