import Derived.Test.YtaiknlnjahjeiaaR4a
import Derived.Deep.Cut
namespace Go.Proofs.Ytaiknlnjahjeiaa
open Go.RowKit Go.PlainAid Go.MapKept
set_option linter.unusedVariables false
set_option linter.unusedSimpArgs false
def DnPost (B : Nat) (w : World) (c : RC) (R : (Int × Int) × (Int × Int × List (Int × Int) × List Int)) (e : Ending) (w' : World) : Prop :=
  ∃ c' : RC, e = .returned (.tuple #[.agg c'.cs, .int .i64 R.1.1, .int .i64 R.1.2]) ∧ (c'.nm = c.nm ∧ c'.cap = R.2.1 ∧ c'.val = R.2.2.1 ∧ c'.H = R.2.2.2.1 ∧ c'.U = R.2.2.2.2) ∧ c'.Rd B w' ∧ ((∀ k, c'.hv.ownBlock = some k → c.hv.ownBlock = some k ∨ w.heap.size ≤ k) ∧ ∀ k, c'.uv.ownBlock = some k → c.uv.ownBlock = some k ∨ w.heap.size ≤ k) ∧ Below w.heap.size w w'
abbrev RO := (Int × Int) × (Int × Int × List (Int × Int) × List Int)
def RC.no (c : RC) (er : Int) : RO := ((0, er), (c.cap, c.val, c.H, c.U))
def rincO (A : Int) (c : RC) : RO := if c.cap < c.val + sumH c.H + A then c.no 60 else ((0, 0), (c.cap, c.val + A, c.H, c.U))
def rdecO (A : Int) (c : RC) : RO := if c.val < A then c.no 60 else ((0, 0), (c.cap, c.val - A, c.H, c.U))
def rholdO (A q : Int) (c : RC) : RO := if c.val < A then c.no 60 else if q < 1 ∨ q ∈ c.U then c.no 1 else ((q, 0), (c.cap, c.val - A, wo q c.H ++ [(q, A)], c.U ++ [q]))
def rendO (k A : Int) (c : RC) : RO := if amtR A c.H = 0 then c.no 70 else ((if k = 12 then 0 else amtR A c.H, 0), (c.cap, if k = 5 then c.val else c.val + amtR A c.H, wo A c.H, c.U))
def rreadO (c : RC) : RO := ((c.val, 0), (c.cap, c.val, c.H, c.U))
def rtakeO (A B : Int) (c : RC) : RO := if c.val ≠ A then c.no 110 else if c.val < B then c.no 60 else ((A, 0), (c.cap, c.val - B, c.H, c.U))
def rresetO (A : Int) (c : RC) : RO := if c.cap < A + sumH c.H then c.no 61 else ((A, 0), (c.cap, A, c.H, c.U))
def rrecapO (A : Int) (c : RC) : RO := if A < c.val + sumH c.H then c.no 61 else ((A, 0), (A, c.val, c.H, c.U))
theorem results_done (tmps : Array Value) (w : World) (g : Nat) (cs : Array Value) (a b : Value)
    (hp : tmps.getD 6 undef = .pointer (some ⟨g, 0, none⟩)) (ha : tmps.getD 7 undef = a) (hb : tmps.getD 8 undef = b) (hg : Blk w g cs 94) (hi : (Try.prog.info? 94).map (·.size) = some cs.size) :
    (results Try.f60 tmps).run Try.prog w = .ok (.tuple #[.agg cs, a, b]) w := by
  have hp' : tmps[6]?.getD undef = .pointer (some ⟨g, 0, none⟩) := by simpa using hp
  have ha' : tmps[7]?.getD undef = a := by simpa using ha
  have hb' : tmps[8]?.getD undef = b := by simpa using hb
  have hld := run_loadVar_row (P := Try.prog) w g 94 94 cs (0, 0) _ hg Try.underlying94 rfl hi
  simp [results, Try.results60, hp', ha', hb', asAddr, hld]
/-- A path that changes neither list. -/
theorem DnPost.same {B : Nat} {w w' : World} {c : RC} {ho uo : Option Addr} {hn hc un uc : Nat} {R : RO} {cap val a b : Int} (hhv : c.hv = .slice ho hn hc) (huv : c.uv = .slice uo un uc) (hR : R = ((a, b), (cap, val, c.H, c.U))) (h : c.Rd B w) (hb : Below w.heap.size w w') :
    DnPost B w c R (.returned (.tuple #[.agg #[.string ⟨c.nm.toArray⟩, .int .i64 cap, .int .i64 val, .slice ho hn hc, .slice uo un uc], .int .i64 a, .int .i64 b])) w' := by
  subst hR
  refine ⟨⟨c.nm, cap, val, c.hv, c.H, c.uv, c.U⟩, by rw [show RC.cs ⟨c.nm, cap, val, c.hv, c.H, c.uv, c.U⟩ = #[.string ⟨c.nm.toArray⟩, .int .i64 cap, .int .i64 val, .slice ho hn hc, .slice uo un uc] from by unfold RC.cs; simp only [hhv, huv]], ⟨rfl, rfl, rfl, rfl, rfl⟩, ?_, ⟨fun k hk => Or.inl hk, fun k hk => Or.inl hk⟩, hb⟩
  have := h.more hb
  exact ⟨this.h, this.u⟩
end Go.Proofs.Ytaiknlnjahjeiaa
