/-
  No cell of these rows narrows 'for every input' (looked for: loops, veiled, ifaces, maps, wideKeys, modest, calm, conditions, laid).
  DERIVED. THE GIVEN ROWS OF THIS SEAT. 6 by the template 'for every input the law returns true; each argument reads behind the call as it read before'; 0 by the template 'total and deterministic' (their statements: YtbjlaloofpdbfaaTotals.lean).
  GIVEN WITH THE SEED: the statements are not yours to turn. If you find one false, say at which input.
  Laid BY PROGRAM, IN A SANDBOX (cutbox-rows.mjs): the forced cells as the released guide's own fill.sh prints them over the translation 9bc139c1444e6e91… (all of the seat's roots in one cut). By AI agents, Wed Nov 11 2026. No macro, syntax, notation, axiom, sorry.
-/
import Derived.Test.YtbjlaloofpdbfaaChecked
import GoSem.Claim
import GoSem.ClaimJoined
import GoSem.ClaimMapViews
import Derived.JoinedTies
import Derived.KernelRfl
namespace Go.Proofs.Ytbjlaloofpdbfaa
/- THE CELL 'sum', in the pinned program and in every row, IS THE sha256 OF THE DUMP (.gsa) THAT YtbjlaloofpdbfaaProg.lean LOADS. Nothing in Lean hashes anything: it is a label: what it is worth is what the hold of that sum in a sandbox is worth. -/
noncomputable def Try.pinned : Pinned := { name := "ytbjlaloofpdbfaa", sum := "9bc139c1444e6e91dbf559831796233ecab29e6402215d9b3653d1ec1c0e605f", checked := Try.checked }
namespace Rows
def none {H : Type} : Left H := { results := [], args := [] }

/-- 'sluicelaw10.NamesHash': WHATEVER THE INPUT: true; the input reads as it did. -/
def namesHashSpec : ChangeSpec := { name := "namesHash", fn := fun _ => fun
  | [d1, d2, d3] => { results := [.lit (.bool true)], args := [d1, d2, d3] }
  | _ => none }
def namesHashRow : OpenClaim := { program := "ytbjlaloofpdbfaa", sum := "9bc139c1444e6e91dbf559831796233ecab29e6402215d9b3653d1ec1c0e605f", func := "sluice/sluicelaw10.NamesHash", spec := "namesHash", unfollowed := true, recurses := true, plainKeys := false, apart := false }
def NamesHashSaid : Prop := namesHashRow.holds Try.pinned (OpenSpec.ofChange namesHashSpec)

/-- ITS FALSE NEIGHBOUR: 'it returns false'. Refute it at one input. -/
def namesHashWrong : ChangeSpec := { name := "namesHash", fn := fun _ => fun
  | [d1, d2, d3] => { results := [.lit (.bool false)], args := [d1, d2, d3] }
  | _ => none }
def NamesHashWrongFalsely : Prop := namesHashRow.holds Try.pinned (OpenSpec.ofChange namesHashWrong)

/-- 'sluicelaw10.NamesOnce': WHATEVER THE INPUT: true; the input reads as it did. -/
def namesOnceSpec : ChangeSpec := { name := "namesOnce", fn := fun _ => fun
  | [d] => { results := [.lit (.bool true)], args := [d] }
  | _ => none }
def namesOnceRow : OpenClaim := { program := "ytbjlaloofpdbfaa", sum := "9bc139c1444e6e91dbf559831796233ecab29e6402215d9b3653d1ec1c0e605f", func := "sluice/sluicelaw10.NamesOnce", spec := "namesOnce", unfollowed := true, recurses := true, plainKeys := false, apart := false }
def NamesOnceSaid : Prop := namesOnceRow.holds Try.pinned (OpenSpec.ofChange namesOnceSpec)

/-- ITS FALSE NEIGHBOUR: 'it returns false'. Refute it at one input. -/
def namesOnceWrong : ChangeSpec := { name := "namesOnce", fn := fun _ => fun
  | [d] => { results := [.lit (.bool false)], args := [d] }
  | _ => none }
def NamesOnceWrongFalsely : Prop := namesOnceRow.holds Try.pinned (OpenSpec.ofChange namesOnceWrong)

/-- 'sluicelaw10.NamesOneHome': WHATEVER THE INPUT: true; the input reads as it did. -/
def namesOneHomeSpec : ChangeSpec := { name := "namesOneHome", fn := fun _ => fun
  | [d1, d2] => { results := [.lit (.bool true)], args := [d1, d2] }
  | _ => none }
def namesOneHomeRow : OpenClaim := { program := "ytbjlaloofpdbfaa", sum := "9bc139c1444e6e91dbf559831796233ecab29e6402215d9b3653d1ec1c0e605f", func := "sluice/sluicelaw10.NamesOneHome", spec := "namesOneHome", unfollowed := true, recurses := true, plainKeys := false, apart := false }
def NamesOneHomeSaid : Prop := namesOneHomeRow.holds Try.pinned (OpenSpec.ofChange namesOneHomeSpec)

/-- ITS FALSE NEIGHBOUR: 'it returns false'. Refute it at one input. -/
def namesOneHomeWrong : ChangeSpec := { name := "namesOneHome", fn := fun _ => fun
  | [d1, d2] => { results := [.lit (.bool false)], args := [d1, d2] }
  | _ => none }
def NamesOneHomeWrongFalsely : Prop := namesOneHomeRow.holds Try.pinned (OpenSpec.ofChange namesOneHomeWrong)

/-- 'sluicelaw10.NamesRoom': WHATEVER THE INPUT: true; the input reads as it did. -/
def namesRoomSpec : ChangeSpec := { name := "namesRoom", fn := fun _ => fun
  | [d1, d2, d3, d4] => { results := [.lit (.bool true)], args := [d1, d2, d3, d4] }
  | _ => none }
def namesRoomRow : OpenClaim := { program := "ytbjlaloofpdbfaa", sum := "9bc139c1444e6e91dbf559831796233ecab29e6402215d9b3653d1ec1c0e605f", func := "sluice/sluicelaw10.NamesRoom", spec := "namesRoom", unfollowed := true, recurses := true, plainKeys := false, apart := false }
def NamesRoomSaid : Prop := namesRoomRow.holds Try.pinned (OpenSpec.ofChange namesRoomSpec)

/-- ITS FALSE NEIGHBOUR: 'it returns false'. Refute it at one input. -/
def namesRoomWrong : ChangeSpec := { name := "namesRoom", fn := fun _ => fun
  | [d1, d2, d3, d4] => { results := [.lit (.bool false)], args := [d1, d2, d3, d4] }
  | _ => none }
def NamesRoomWrongFalsely : Prop := namesRoomRow.holds Try.pinned (OpenSpec.ofChange namesRoomWrong)

/-- 'sluicelaw10.NamesAll': WHATEVER THE INPUT: true; the input reads as it did. -/
def namesAllSpec : ChangeSpec := { name := "namesAll", fn := fun _ => fun
  | [d1, d2, d3, d4, d5] => { results := [.lit (.bool true)], args := [d1, d2, d3, d4, d5] }
  | _ => none }
def namesAllRow : OpenClaim := { program := "ytbjlaloofpdbfaa", sum := "9bc139c1444e6e91dbf559831796233ecab29e6402215d9b3653d1ec1c0e605f", func := "sluice/sluicelaw10.NamesAll", spec := "namesAll", unfollowed := true, recurses := true, plainKeys := false, apart := false }
def NamesAllSaid : Prop := namesAllRow.holds Try.pinned (OpenSpec.ofChange namesAllSpec)

/-- ITS FALSE NEIGHBOUR: 'it returns false'. Refute it at one input. -/
def namesAllWrong : ChangeSpec := { name := "namesAll", fn := fun _ => fun
  | [d1, d2, d3, d4, d5] => { results := [.lit (.bool false)], args := [d1, d2, d3, d4, d5] }
  | _ => none }
def NamesAllWrongFalsely : Prop := namesAllRow.holds Try.pinned (OpenSpec.ofChange namesAllWrong)

/-- 'sluicelaw10.NamesAsks': WHATEVER THE INPUT: true; the input reads as it did. -/
def namesAsksSpec : ChangeSpec := { name := "namesAsks", fn := fun _ => fun
  | [d1, d2, d3, d4] => { results := [.lit (.bool true)], args := [d1, d2, d3, d4] }
  | _ => none }
def namesAsksRow : OpenClaim := { program := "ytbjlaloofpdbfaa", sum := "9bc139c1444e6e91dbf559831796233ecab29e6402215d9b3653d1ec1c0e605f", func := "sluice/sluicelaw10.NamesAsks", spec := "namesAsks", unfollowed := true, recurses := true, plainKeys := false, apart := false }
def NamesAsksSaid : Prop := namesAsksRow.holds Try.pinned (OpenSpec.ofChange namesAsksSpec)

/-- ITS FALSE NEIGHBOUR: 'it returns false'. Refute it at one input. -/
def namesAsksWrong : ChangeSpec := { name := "namesAsks", fn := fun _ => fun
  | [d1, d2, d3, d4] => { results := [.lit (.bool false)], args := [d1, d2, d3, d4] }
  | _ => none }
def NamesAsksWrongFalsely : Prop := namesAsksRow.holds Try.pinned (OpenSpec.ofChange namesAsksWrong)

/- THE SECOND FORM. 'bulk': how many values and letters a reading holds, each counted each time it is reached (what is shared counts as often as it is met; a slice's spare places count too). A statement '..UptoSaid' is the law's where the arguments, and the package variables that the reading takes, are together of bulk at most 1048576: NARROWER than '..Said'. Prove '..Said' where nothing that the law and all that it calls make is longer than what came in: it says more and counts as full. Else prove '..UptoSaid'. A law counts once. -/
mutual
def uptoBulk {H : Type} : DataW H → Nat
  | .lit (.string bytes) => bytes.length + 1
  | .lit _ => 1
  | .nil => 1
  | .ptr d => uptoBulk d + 1
  | .slice elems spare => uptoBulkAll elems + uptoBulkAll spare + 1
  | .agg parts => uptoBulkAll parts + 1
  | .iface _ d => uptoBulk d + 1
  | .map entries => uptoBulkEntries entries + 1
  | .held _ => 1
def uptoBulkAll {H : Type} : List (DataW H) → Nat
  | [] => 0
  | d :: r => uptoBulk d + uptoBulkAll r
def uptoBulkEntries {H : Type} : List (Lit × DataW H) → Nat
  | [] => 0
  | x :: r => uptoBulkEntry x + uptoBulkEntries r
def uptoBulkEntry {H : Type} : Lit × DataW H → Nat
  | (.string bytes, d) => bytes.length + uptoBulk d + 1
  | (_, d) => uptoBulk d + 1
 end
def uptoSmall : (H : Type) → List (DataW H) → Bool := fun _ ds => decide (uptoBulkAll ds ≤ 1048576)
def OpenSpec.upto (s : _root_.Go.ChangeSpec) : _root_.Go.OpenSpec := { _root_.Go.OpenSpec.ofChange s with cond := some uptoSmall }

/-- 'sluicelaw10.NamesHash', WHERE WHAT IT READS IS OF BULK AT MOST 1048576: true; the input reads as it did. -/
def namesHashUptoRow : OpenClaim := { program := "ytbjlaloofpdbfaa", sum := "9bc139c1444e6e91dbf559831796233ecab29e6402215d9b3653d1ec1c0e605f", func := "sluice/sluicelaw10.NamesHash", spec := "namesHash", unfollowed := true, recurses := true, plainKeys := false, apart := false, narrowed := true }
def NamesHashUptoSaid : Prop := namesHashUptoRow.holds Try.pinned (OpenSpec.upto namesHashSpec)

/-- 'sluicelaw10.NamesOnce', WHERE WHAT IT READS IS OF BULK AT MOST 1048576: true; the input reads as it did. -/
def namesOnceUptoRow : OpenClaim := { program := "ytbjlaloofpdbfaa", sum := "9bc139c1444e6e91dbf559831796233ecab29e6402215d9b3653d1ec1c0e605f", func := "sluice/sluicelaw10.NamesOnce", spec := "namesOnce", unfollowed := true, recurses := true, plainKeys := false, apart := false, narrowed := true }
def NamesOnceUptoSaid : Prop := namesOnceUptoRow.holds Try.pinned (OpenSpec.upto namesOnceSpec)

/-- 'sluicelaw10.NamesOneHome', WHERE WHAT IT READS IS OF BULK AT MOST 1048576: true; the input reads as it did. -/
def namesOneHomeUptoRow : OpenClaim := { program := "ytbjlaloofpdbfaa", sum := "9bc139c1444e6e91dbf559831796233ecab29e6402215d9b3653d1ec1c0e605f", func := "sluice/sluicelaw10.NamesOneHome", spec := "namesOneHome", unfollowed := true, recurses := true, plainKeys := false, apart := false, narrowed := true }
def NamesOneHomeUptoSaid : Prop := namesOneHomeUptoRow.holds Try.pinned (OpenSpec.upto namesOneHomeSpec)

/-- 'sluicelaw10.NamesRoom', WHERE WHAT IT READS IS OF BULK AT MOST 1048576: true; the input reads as it did. -/
def namesRoomUptoRow : OpenClaim := { program := "ytbjlaloofpdbfaa", sum := "9bc139c1444e6e91dbf559831796233ecab29e6402215d9b3653d1ec1c0e605f", func := "sluice/sluicelaw10.NamesRoom", spec := "namesRoom", unfollowed := true, recurses := true, plainKeys := false, apart := false, narrowed := true }
def NamesRoomUptoSaid : Prop := namesRoomUptoRow.holds Try.pinned (OpenSpec.upto namesRoomSpec)

/-- 'sluicelaw10.NamesAll', WHERE WHAT IT READS IS OF BULK AT MOST 1048576: true; the input reads as it did. -/
def namesAllUptoRow : OpenClaim := { program := "ytbjlaloofpdbfaa", sum := "9bc139c1444e6e91dbf559831796233ecab29e6402215d9b3653d1ec1c0e605f", func := "sluice/sluicelaw10.NamesAll", spec := "namesAll", unfollowed := true, recurses := true, plainKeys := false, apart := false, narrowed := true }
def NamesAllUptoSaid : Prop := namesAllUptoRow.holds Try.pinned (OpenSpec.upto namesAllSpec)

/-- 'sluicelaw10.NamesAsks', WHERE WHAT IT READS IS OF BULK AT MOST 1048576: true; the input reads as it did. -/
def namesAsksUptoRow : OpenClaim := { program := "ytbjlaloofpdbfaa", sum := "9bc139c1444e6e91dbf559831796233ecab29e6402215d9b3653d1ec1c0e605f", func := "sluice/sluicelaw10.NamesAsks", spec := "namesAsks", unfollowed := true, recurses := true, plainKeys := false, apart := false, narrowed := true }
def NamesAsksUptoSaid : Prop := namesAsksUptoRow.holds Try.pinned (OpenSpec.upto namesAsksSpec)

end Rows
end Go.Proofs.Ytbjlaloofpdbfaa
