/-
  No cell of these rows narrows 'for every input' (looked for: loops, veiled, ifaces, maps, wideKeys, modest, calm, conditions, laid).
  DERIVED. THE GIVEN ROWS OF THIS SEAT. 6 by the template 'for every input the law returns true; each argument reads behind the call as it read before'; 0 by the template 'total and deterministic' (their statements: YtgjibihhchojoaaTotals.lean).
  GIVEN WITH THE SEED: the statements are not yours to turn. If you find one false, say at which input.
  Laid BY PROGRAM, IN A SANDBOX (cutbox-rows.mjs): the forced cells as the released guide's own fill.sh prints them over the translation 0d060213786d4e3a… (all of the seat's roots in one cut). By AI agents, Wed Nov 11 2026. No macro, syntax, notation, axiom, sorry.
-/
import Derived.Test.YtgjibihhchojoaaChecked
import GoSem.Claim
import GoSem.ClaimJoined
import GoSem.ClaimMapViews
import Derived.JoinedTies
import Derived.KernelRfl
namespace Go.Proofs.Ytgjibihhchojoaa
/- THE CELL 'sum', in the pinned program and in every row, IS THE sha256 OF THE DUMP (.gsa) THAT YtgjibihhchojoaaProg.lean LOADS. Nothing in Lean hashes anything: it is a label: what it is worth is what the hold of that sum in a sandbox is worth. -/
noncomputable def Try.pinned : Pinned := { name := "ytgjibihhchojoaa", sum := "0d060213786d4e3a5846a714ce118257cd588dfd6b1808ce2066b8ce8941710a", checked := Try.checked }
namespace Rows
def none {H : Type} : Left H := { results := [], args := [] }

/-- 'sluicelaw10.NamesHash': WHATEVER THE INPUT: true; the input reads as it did. -/
def namesHashSpec : ChangeSpec := { name := "namesHash", fn := fun _ => fun
  | [d1, d2, d3] => { results := [.lit (.bool true)], args := [d1, d2, d3] }
  | _ => none }
def namesHashRow : OpenClaim := { program := "ytgjibihhchojoaa", sum := "0d060213786d4e3a5846a714ce118257cd588dfd6b1808ce2066b8ce8941710a", func := "sluice/sluicelaw10.NamesHash", spec := "namesHash", unfollowed := true, recurses := true, plainKeys := false, apart := false }
def NamesHashSaid : Prop := namesHashRow.holds Try.pinned (OpenSpec.ofChange namesHashSpec)

/-- ITS FALSE NEIGHBOUR: 'it returns false'. Refute it at one input. -/
def namesHashWrong : ChangeSpec := { name := "namesHash", fn := fun _ => fun
  | [d1, d2, d3] => { results := [.lit (.bool false)], args := [d1, d2, d3] }
  | _ => none }
def NamesHashWrongFalsely : Prop := namesHashRow.holds Try.pinned (OpenSpec.ofChange namesHashWrong)

/-- 'sluicelaw10.NamesOnce': WHATEVER THE INPUT: true; the input reads as it did. -/
def namesOnceSpec : ChangeSpec := { name := "namesOnce", fn := fun _ => fun
  | [d] => { results := [.lit (.bool true)], args := [d] }
  | _ => none }
def namesOnceRow : OpenClaim := { program := "ytgjibihhchojoaa", sum := "0d060213786d4e3a5846a714ce118257cd588dfd6b1808ce2066b8ce8941710a", func := "sluice/sluicelaw10.NamesOnce", spec := "namesOnce", unfollowed := true, recurses := true, plainKeys := false, apart := false }
def NamesOnceSaid : Prop := namesOnceRow.holds Try.pinned (OpenSpec.ofChange namesOnceSpec)

/-- ITS FALSE NEIGHBOUR: 'it returns false'. Refute it at one input. -/
def namesOnceWrong : ChangeSpec := { name := "namesOnce", fn := fun _ => fun
  | [d] => { results := [.lit (.bool false)], args := [d] }
  | _ => none }
def NamesOnceWrongFalsely : Prop := namesOnceRow.holds Try.pinned (OpenSpec.ofChange namesOnceWrong)

/-- 'sluicelaw10.NamesOneHome': WHATEVER THE INPUT: true; the input reads as it did. -/
def namesOneHomeSpec : ChangeSpec := { name := "namesOneHome", fn := fun _ => fun
  | [d1, d2] => { results := [.lit (.bool true)], args := [d1, d2] }
  | _ => none }
def namesOneHomeRow : OpenClaim := { program := "ytgjibihhchojoaa", sum := "0d060213786d4e3a5846a714ce118257cd588dfd6b1808ce2066b8ce8941710a", func := "sluice/sluicelaw10.NamesOneHome", spec := "namesOneHome", unfollowed := true, recurses := true, plainKeys := false, apart := false }
def NamesOneHomeSaid : Prop := namesOneHomeRow.holds Try.pinned (OpenSpec.ofChange namesOneHomeSpec)

/-- ITS FALSE NEIGHBOUR: 'it returns false'. Refute it at one input. -/
def namesOneHomeWrong : ChangeSpec := { name := "namesOneHome", fn := fun _ => fun
  | [d1, d2] => { results := [.lit (.bool false)], args := [d1, d2] }
  | _ => none }
def NamesOneHomeWrongFalsely : Prop := namesOneHomeRow.holds Try.pinned (OpenSpec.ofChange namesOneHomeWrong)

/-- 'sluicelaw10.NamesRoom': WHATEVER THE INPUT: true; the input reads as it did. -/
def namesRoomSpec : ChangeSpec := { name := "namesRoom", fn := fun _ => fun
  | [d1, d2, d3, d4] => { results := [.lit (.bool true)], args := [d1, d2, d3, d4] }
  | _ => none }
def namesRoomRow : OpenClaim := { program := "ytgjibihhchojoaa", sum := "0d060213786d4e3a5846a714ce118257cd588dfd6b1808ce2066b8ce8941710a", func := "sluice/sluicelaw10.NamesRoom", spec := "namesRoom", unfollowed := true, recurses := true, plainKeys := false, apart := false }
def NamesRoomSaid : Prop := namesRoomRow.holds Try.pinned (OpenSpec.ofChange namesRoomSpec)

/-- ITS FALSE NEIGHBOUR: 'it returns false'. Refute it at one input. -/
def namesRoomWrong : ChangeSpec := { name := "namesRoom", fn := fun _ => fun
  | [d1, d2, d3, d4] => { results := [.lit (.bool false)], args := [d1, d2, d3, d4] }
  | _ => none }
def NamesRoomWrongFalsely : Prop := namesRoomRow.holds Try.pinned (OpenSpec.ofChange namesRoomWrong)

/-- 'sluicelaw10.NamesAll': WHATEVER THE INPUT: true; the input reads as it did. -/
def namesAllSpec : ChangeSpec := { name := "namesAll", fn := fun _ => fun
  | [d1, d2, d3, d4, d5] => { results := [.lit (.bool true)], args := [d1, d2, d3, d4, d5] }
  | _ => none }
def namesAllRow : OpenClaim := { program := "ytgjibihhchojoaa", sum := "0d060213786d4e3a5846a714ce118257cd588dfd6b1808ce2066b8ce8941710a", func := "sluice/sluicelaw10.NamesAll", spec := "namesAll", unfollowed := true, recurses := true, plainKeys := false, apart := false }
def NamesAllSaid : Prop := namesAllRow.holds Try.pinned (OpenSpec.ofChange namesAllSpec)

/-- ITS FALSE NEIGHBOUR: 'it returns false'. Refute it at one input. -/
def namesAllWrong : ChangeSpec := { name := "namesAll", fn := fun _ => fun
  | [d1, d2, d3, d4, d5] => { results := [.lit (.bool false)], args := [d1, d2, d3, d4, d5] }
  | _ => none }
def NamesAllWrongFalsely : Prop := namesAllRow.holds Try.pinned (OpenSpec.ofChange namesAllWrong)

/-- 'sluicelaw10.NamesKnown': WHATEVER THE INPUT: true; the input reads as it did. -/
def namesKnownSpec : ChangeSpec := { name := "namesKnown", fn := fun _ => fun
  | [d1, d2, d3, d4] => { results := [.lit (.bool true)], args := [d1, d2, d3, d4] }
  | _ => none }
def namesKnownRow : OpenClaim := { program := "ytgjibihhchojoaa", sum := "0d060213786d4e3a5846a714ce118257cd588dfd6b1808ce2066b8ce8941710a", func := "sluice/sluicelaw10.NamesKnown", spec := "namesKnown", unfollowed := true, recurses := true, plainKeys := false, apart := false }
def NamesKnownSaid : Prop := namesKnownRow.holds Try.pinned (OpenSpec.ofChange namesKnownSpec)

/-- ITS FALSE NEIGHBOUR: 'it returns false'. Refute it at one input. -/
def namesKnownWrong : ChangeSpec := { name := "namesKnown", fn := fun _ => fun
  | [d1, d2, d3, d4] => { results := [.lit (.bool false)], args := [d1, d2, d3, d4] }
  | _ => none }
def NamesKnownWrongFalsely : Prop := namesKnownRow.holds Try.pinned (OpenSpec.ofChange namesKnownWrong)

/- THE SECOND FORM. 'bulk': how many values and letters a reading holds, each counted each time it is reached (what is shared counts as often as it is met; a slice's spare places count too). A statement '..UptoSaid' is the law's where the arguments, and the package variables that the reading takes, are together of bulk at most 1048576: NARROWER than '..Said'. Prove '..Said' where nothing that the law and all that it calls make is longer than what came in: it says more and counts as full. Else prove '..UptoSaid'. A law counts once. -/
mutual
def uptoBulk {H : Type} : DataW H → Nat
  | .lit (.string bytes) => bytes.length + 1
  | .lit _ => 1
  | .nil => 1
  | .ptr d => uptoBulk d + 1
  | .slice elems spare => uptoBulkAll elems + uptoBulkAll spare + 1
  | .agg parts => uptoBulkAll parts + 1
  | .iface _ d => uptoBulk d + 1
  | .map entries => uptoBulkEntries entries + 1
  | .held _ => 1
def uptoBulkAll {H : Type} : List (DataW H) → Nat
  | [] => 0
  | d :: r => uptoBulk d + uptoBulkAll r
def uptoBulkEntries {H : Type} : List (Lit × DataW H) → Nat
  | [] => 0
  | x :: r => uptoBulkEntry x + uptoBulkEntries r
def uptoBulkEntry {H : Type} : Lit × DataW H → Nat
  | (.string bytes, d) => bytes.length + uptoBulk d + 1
  | (_, d) => uptoBulk d + 1
 end
def uptoSmall : (H : Type) → List (DataW H) → Bool := fun _ ds => decide (uptoBulkAll ds ≤ 1048576)
def OpenSpec.upto (s : _root_.Go.ChangeSpec) : _root_.Go.OpenSpec := { _root_.Go.OpenSpec.ofChange s with cond := some uptoSmall }

/-- 'sluicelaw10.NamesHash', WHERE WHAT IT READS IS OF BULK AT MOST 1048576: true; the input reads as it did. -/
def namesHashUptoRow : OpenClaim := { program := "ytgjibihhchojoaa", sum := "0d060213786d4e3a5846a714ce118257cd588dfd6b1808ce2066b8ce8941710a", func := "sluice/sluicelaw10.NamesHash", spec := "namesHash", unfollowed := true, recurses := true, plainKeys := false, apart := false, narrowed := true }
def NamesHashUptoSaid : Prop := namesHashUptoRow.holds Try.pinned (OpenSpec.upto namesHashSpec)

/-- 'sluicelaw10.NamesOnce', WHERE WHAT IT READS IS OF BULK AT MOST 1048576: true; the input reads as it did. -/
def namesOnceUptoRow : OpenClaim := { program := "ytgjibihhchojoaa", sum := "0d060213786d4e3a5846a714ce118257cd588dfd6b1808ce2066b8ce8941710a", func := "sluice/sluicelaw10.NamesOnce", spec := "namesOnce", unfollowed := true, recurses := true, plainKeys := false, apart := false, narrowed := true }
def NamesOnceUptoSaid : Prop := namesOnceUptoRow.holds Try.pinned (OpenSpec.upto namesOnceSpec)

/-- 'sluicelaw10.NamesOneHome', WHERE WHAT IT READS IS OF BULK AT MOST 1048576: true; the input reads as it did. -/
def namesOneHomeUptoRow : OpenClaim := { program := "ytgjibihhchojoaa", sum := "0d060213786d4e3a5846a714ce118257cd588dfd6b1808ce2066b8ce8941710a", func := "sluice/sluicelaw10.NamesOneHome", spec := "namesOneHome", unfollowed := true, recurses := true, plainKeys := false, apart := false, narrowed := true }
def NamesOneHomeUptoSaid : Prop := namesOneHomeUptoRow.holds Try.pinned (OpenSpec.upto namesOneHomeSpec)

/-- 'sluicelaw10.NamesRoom', WHERE WHAT IT READS IS OF BULK AT MOST 1048576: true; the input reads as it did. -/
def namesRoomUptoRow : OpenClaim := { program := "ytgjibihhchojoaa", sum := "0d060213786d4e3a5846a714ce118257cd588dfd6b1808ce2066b8ce8941710a", func := "sluice/sluicelaw10.NamesRoom", spec := "namesRoom", unfollowed := true, recurses := true, plainKeys := false, apart := false, narrowed := true }
def NamesRoomUptoSaid : Prop := namesRoomUptoRow.holds Try.pinned (OpenSpec.upto namesRoomSpec)

/-- 'sluicelaw10.NamesAll', WHERE WHAT IT READS IS OF BULK AT MOST 1048576: true; the input reads as it did. -/
def namesAllUptoRow : OpenClaim := { program := "ytgjibihhchojoaa", sum := "0d060213786d4e3a5846a714ce118257cd588dfd6b1808ce2066b8ce8941710a", func := "sluice/sluicelaw10.NamesAll", spec := "namesAll", unfollowed := true, recurses := true, plainKeys := false, apart := false, narrowed := true }
def NamesAllUptoSaid : Prop := namesAllUptoRow.holds Try.pinned (OpenSpec.upto namesAllSpec)

/-- 'sluicelaw10.NamesKnown', WHERE WHAT IT READS IS OF BULK AT MOST 1048576: true; the input reads as it did. -/
def namesKnownUptoRow : OpenClaim := { program := "ytgjibihhchojoaa", sum := "0d060213786d4e3a5846a714ce118257cd588dfd6b1808ce2066b8ce8941710a", func := "sluice/sluicelaw10.NamesKnown", spec := "namesKnown", unfollowed := true, recurses := true, plainKeys := false, apart := false, narrowed := true }
def NamesKnownUptoSaid : Prop := namesKnownUptoRow.holds Try.pinned (OpenSpec.upto namesKnownSpec)

end Rows
end Go.Proofs.Ytgjibihhchojoaa
