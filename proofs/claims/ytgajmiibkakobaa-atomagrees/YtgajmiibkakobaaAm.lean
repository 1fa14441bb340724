import Derived.Test.YtgajmiibkakobaaGm2
import Derived.Test.YtgajmiibkakobaaBd2
import Derived.Laws.Rows
import Derived.Laws.ByValue
import Derived.Laws.EntriesVeiled
namespace Go.Proofs.Ytgajmiibkakobaa
open Go.RowKit Go.PlainAid Go.MapKept
set_option linter.unusedVariables false
set_option linter.unusedSimpArgs false
def Str (n : List UInt8) : Value := .string ⟨n.toArray⟩
/-- A counter as it stands in memory, and what its map of holds holds. -/
structure Ct where
  nm : List UInt8
  lim : Int
  val : Int
  held : Int
  hb : Option Nat
  H : List (Int × Int)
def Ct.cs (c : Ct) : Array Value := #[.string ⟨c.nm.toArray⟩, .int .i64 c.lim, .int .i64 c.val, .int .i64 c.held, .map c.hb]
def ctV (c : Ct) : Value := .agg c.cs
theorem bytesD (b d : List UInt8) : ((⟨b.toArray⟩ : ByteArray) == ⟨d.toArray⟩) = decide (b = d) := by
  have h : ((⟨b.toArray⟩ : ByteArray) == ⟨d.toArray⟩) = (b == d) := by
    show (b.toArray == d.toArray) = (b == d)
    simp
  rw [h]
  by_cases h : b = d <;> simp [h]
theorem checkS (n : Nat) (b : Bool) (k : List UInt8) (w : World) : (Instr.checkKey b (n + 2) 9 (Str k)).run Try.prog w = .ok () w := by
  unfold Str
  simp [Instr.checkKey, go_sem, Result.andThen, run_underlying Try.underlying9]
theorem str_inj {a b : List UInt8} (h : Str a = Str b) : a = b := by
  unfold Str at h
  simpa using h
theorem findNow_str (k : List UInt8) : ∀ (es : List MapEntry) (L : List (List UInt8 × Ct)) (i : Nat), es.map Gm.kv = L.map (Gm.encP Str ctV) → Instr.findNow .string (Str k) es i = some ((Gm.fnd k L i).map fun p => (p.1, ctV p.2.2))
  | [], [], i, _ => rfl
  | [], _ :: _, i, h => by simp at h
  | _ :: _, [], i, h => by simp at h
  | e :: es, x :: L, i, h => by
    simp only [List.map_cons, List.cons.injEq] at h
    obtain ⟨h1, h2⟩ := h
    have ek : e.key = Str x.1 := congrArg Prod.fst h1
    have ev : e.val = ctV x.2 := congrArg Prod.snd h1
    have ih := findNow_str k es L (i + 1) h2
    by_cases hk : k = x.1
    · simp [Instr.findNow, ek, Str, Instr.sameNow, bytesD, hk, Gm.fnd, ev]
    · simp only [Instr.findNow, ek, Str, Instr.sameNow, bytesD, hk, Gm.fnd, decide_false, if_false]
      exact ih
def zedC : Ct := ⟨[], 0, 0, 0, none, []⟩
def MC : Gm.ML (List UInt8) Ct where
  kE := Str
  vE := ctV
  z := zedC
  tm := 57
  tk := 9
  tv := 67
  inj := fun a b h => str_inj h
  under := Try.underlying57
  check := fun b k w => checkS 9998 b k w
  stays := fun k w => by
    have h : Instr.sameBits 10000 (Str k) (Str k) = true := by
      unfold Str
      simp [Instr.sameBits, bytesD]
    simp [Instr.keyThatStays, h]
  zero := fun w => by kernel_rfl
  find := fun k w es L h => by
    unfold Instr.findKey
    rw [Sem.run_bind, run_underlying Try.underlying9]
    simp only [Result.andThen]
    rw [findNow_str k es L 0 h]
    rfl
theorem findNow_int (k : Int) : ∀ (es : List MapEntry) (L : List (Int × Int)) (i : Nat), es.map Gm.kv = L.map (Gm.encP (fun z => Value.int .i64 z) (fun z => Value.int .i64 z)) → Instr.findNow (.int .i64) (.int .i64 k) es i = some ((Gm.fnd k L i).map fun p => (p.1, .int .i64 p.2.2))
  | [], [], i, _ => rfl
  | [], _ :: _, i, h => by simp at h
  | _ :: _, [], i, h => by simp at h
  | e :: es, x :: L, i, h => by
    simp only [List.map_cons, List.cons.injEq] at h
    obtain ⟨h1, h2⟩ := h
    have ek : e.key = .int .i64 x.1 := congrArg Prod.fst h1
    have ev : e.val = .int .i64 x.2 := congrArg Prod.snd h1
    have ih := findNow_int k es L (i + 1) h2
    by_cases hk : k = x.1
    · simp [Instr.findNow, ek, Instr.sameNow, hk, Gm.fnd, ev]
    · have hb : (k == x.1) = false := by simpa using hk
      simp only [Instr.findNow, ek, Instr.sameNow, Gm.fnd, hb, if_neg hk]
      exact ih
theorem checkI (n : Nat) (b : Bool) (k : Int) (w : World) : (Instr.checkKey b (n + 1) 3 (.int .i64 k)).run Try.prog w = .ok () w := by
  simp [Instr.checkKey, go_sem, Result.andThen, run_underlying Try.underlying3]
def MI : Gm.ML Int Int where
  kE := fun z => .int .i64 z
  vE := fun z => .int .i64 z
  z := 0
  tm := 65
  tk := 3
  tv := 3
  inj := fun a b h => by simpa using h
  under := Try.underlying65
  check := fun b k w => checkI 9999 b k w
  stays := fun k w => by
    have h : Instr.sameBits 10000 (.int .i64 k) (.int .i64 k) = true := by simp [Instr.sameBits]
    simp [Instr.keyThatStays, h]
  zero := fun w => by kernel_rfl
  find := fun k w es L h => by
    unfold Instr.findKey
    rw [Sem.run_bind, run_underlying Try.underlying3]
    simp only [Result.andThen]
    rw [findNow_int k es L 0 h]
    rfl
abbrev HI (w : World) (hb : Nat) (H : List (Int × Int)) : Prop := Gm.HMap MI w hb H
/-- What the closure of a deed does: it hands the counter back as it is then. -/
def DoPost (L0 U : Nat) (hb0 : Option Nat) (n : List UInt8) (lim val held : Int) (H : List (Int × Int)) (W : World) (e : Ending) (W' : World) : Prop :=
  ∃ hb' : Nat, e = .returned (ctV ⟨n, lim, val, held, some hb', H⟩) ∧ HI W' hb' H ∧ (hb0 = some hb' ∨ hb0 = none ∧ W.heap.size ≤ hb') ∧ Chg (fun k => hb0 = some k ∨ L0 ≤ k ∧ k < U) W W'
/-- What was laid since L0, and the map of holds, stand in W as in w. -/
structure Since (L0 : Nat) (hb0 : Option Nat) (w W : World) : Prop where
  size : w.heap.size ≤ W.heap.size
  new : ∀ k, L0 ≤ k → k < w.heap.size → W.heap[k]? = w.heap[k]?
  hb : ∀ k, hb0 = some k → W.heap[k]? = w.heap[k]?
theorem Since.blk {L0 : Nat} {hb0 : Option Nat} {w W : World} {b : Nat} {C : Array Value} {T : TypeId} (h : Since L0 hb0 w W) (hB : Blk w b C T) (hl : L0 ≤ b) : Blk W b C T := (h.new b hl hB.lt).trans hB
theorem Since.hi {L0 hb : Nat} {w W : World} {H : List (Int × Int)} (h : Since L0 (some hb) w W) (hI : HI w hb H) : HI W hb H := hI.same (h.hb hb rfl)
theorem Since.below {L0 L1 : Nat} {hb0 : Option Nat} {w W : World} (h : Below L1 w W) (hl : w.heap.size ≤ L1) (hh : ∀ k, hb0 = some k → k < w.heap.size) : Since L0 hb0 w W := ⟨h.size, fun k _ hk => h.block k (Nat.lt_of_lt_of_le hk hl), fun k hk => h.block k (Nat.lt_of_lt_of_le (hh k hk) hl)⟩
def Doer (L0 : Nat) (hb0 : Option Nat) (n : List UInt8) (lim val held : Int) (H : List (Int × Int)) (fv : Value) (w : World) : Prop :=
  ∃ (K : Nat) (cs : Array Value), fv = .func (.func K) #[] cs ∧ (∀ args w, (callFunc K args).run Try.prog w = .ok (.enter K args) w) ∧ ∀ W, Since L0 hb0 w W → Calls Try.prog K cs W (DoPost L0 w.heap.size hb0 n lim val held H W)
/-- A deed that is handed on: the world has gone from w to w', the blocks of A alone have changed. -/
theorem Doer.later {L0 L1 : Nat} {hb0 : Option Nat} {n : List UInt8} {lim val held : Int} {H : List (Int × Int)} {fv : Value} {w w' : World} {A : Nat → Prop} (h : Doer L0 hb0 n lim val held H fv w) (hc : Chg A w w') (hl : L1 ≤ L0) (h1 : ∀ k, L0 ≤ k → ¬ A k) (h2 : ∀ k, hb0 = some k → k < w.heap.size ∧ ¬ A k) : Doer L1 hb0 n lim val held H fv w' := by
  obtain ⟨K, cs, e1, e2, e3⟩ := h
  refine ⟨K, cs, e1, e2, fun W hs => (e3 W ⟨Nat.le_trans hc.size hs.size, fun k h3 h4 => ?_, fun k hk => ?_⟩).mono ?_⟩
  · exact (hs.new k (Nat.le_trans hl h3) (Nat.lt_of_lt_of_le h4 hc.size)).trans (hc.block k h4 (h1 k h3))
  · exact (hs.hb k hk).trans (hc.block k (h2 k hk).1 (h2 k hk).2)
  · rintro e W' ⟨hb', a1, a2, a3, a4⟩
    exact ⟨hb', a1, a2, a3, a4.mono (fun k _ e => e.imp id (fun e => ⟨Nat.le_trans hl e.1, Nat.lt_of_lt_of_le e.2 hc.size⟩))⟩
/-- What a plan comes to: an answer, an error, and the counter as it would be. -/
abbrev Out := (Int × Int) × (Int × Int × Int × List (Int × Int))
def PlPost (hb0 : Option Nat) (n : List UInt8) (r : Out) (w : World) (e : Ending) (w' : World) : Prop :=
  ∃ fv, e = .returned (.agg #[.int .i64 r.1.1, .int .i64 r.1.2, fv]) ∧ fv.oneCell' = true ∧ Below w.heap.size w w' ∧ (r.1.2 = 0 → Doer w.heap.size hb0 n r.2.1 r.2.2.1 r.2.2.2.1 r.2.2.2.2 fv w')
end Go.Proofs.Ytgajmiibkakobaa
