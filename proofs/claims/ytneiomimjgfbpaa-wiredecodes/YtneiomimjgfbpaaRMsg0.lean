import Derived.Test.YtneiomimjgfbpaaRComp3
import Derived.Test.YtneiomimjgfbpaaWMsg0
namespace Go.Proofs.Ytneiomimjgfbpaa
open Go.RowKit Go.PlainAid

/-- The twenty cells of a message. -/
def msgCells (m : Msg) (vs : Value) : Array Value := #[.int .i64 m.kind, Str m.name, .int .i64 m.cap, .int .i64 m.recaps, .int .i64 m.round, .int .i64 m.rank, .int .i64 m.oround, .int .i64 m.orank, .int .i64 m.down, .int .i64 m.up, .int .i64 m.held, .int .i64 m.session, .int .i64 m.id, .int .i64 m.okind, Str m.oname, .int .i64 m.oa, .int .i64 m.ob, .int .i64 m.err, .int .i64 m.value, vs]
def zeroC : Array Value := msgCells Msg.zero (.slice none 0 0)

theorem body1 : bodyC 1 = askC := by unfold bodyC; simp
theorem body2 : bodyC 2 = toldC := by unfold bodyC; simp
theorem body3 : bodyC 3 = markC := by unfold bodyC; simp
theorem body4 : bodyC 4 = yieldC := by unfold bodyC; simp
theorem body5 : bodyC 5 = grantC 5 := by unfold bodyC; simp
theorem body6 : bodyC 6 = grantC 6 := by unfold bodyC; simp
theorem body7 : bodyC 7 = overC := by unfold bodyC; simp
theorem body8 : bodyC 8 = wantC 8 := by unfold bodyC; simp
theorem body9 : bodyC 9 = wantC 9 := by unfold bodyC; simp
theorem body10 : bodyC 10 = digestC := by unfold bodyC; simp
theorem capsIf0 : capsIf 0 = caps := rfl
theorem capsIf101 : capsIf 101 = caps := rfl
theorem capsIfn_rd (e : Int) (h0 : (e == 0) = false) (h1 : (e == 101) = false) (l : List UInt8) : (capsIf e).rd l = .ok ((0, 0), 0) := by
  unfold capsIf hasCap
  rw [h0, h1]
  rfl
end Go.Proofs.Ytneiomimjgfbpaa
