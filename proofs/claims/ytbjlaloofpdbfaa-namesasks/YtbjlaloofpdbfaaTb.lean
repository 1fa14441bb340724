import Derived.Test.YtbjlaloofpdbfaaHs
namespace Go.Proofs.Ytbjlaloofpdbfaa
open Go.RowKit Go.PlainAid Go.MapKept
set_option linter.unusedVariables false
set_option linter.unusedSimpArgs false
def Str (n : List UInt8) : Value := .string ⟨n.toArray⟩
theorem bytesB (b d : List UInt8) : ((⟨b.toArray⟩ : ByteArray) == ⟨d.toArray⟩) = decide (b = d) := by
  have h : ((⟨b.toArray⟩ : ByteArray) == ⟨d.toArray⟩) = (b == d) := by
    show (b.toArray == d.toArray) = (b == d)
    simp
  rw [h]
  by_cases h : b = d <;> simp [h]
theorem checkS (n : Nat) (b : Bool) (k : List UInt8) (w : World) : (Instr.checkKey b (n + 2) 9 (Str k)).run Try.prog w = .ok () w := by
  unfold Str
  simp [Instr.checkKey, go_sem, Result.andThen, run_underlying Try.underlying9]
theorem str_inj {a b : List UInt8} (h : Str a = Str b) : a = b := by
  unfold Str at h
  simpa using h
theorem findNow_str (k : List UInt8) : ∀ (es : List MapEntry) (L : List (List UInt8 × Int)) (i : Nat), es.map kv = L.map (encP Str (fun z => Value.int .i64 z)) → Instr.findNow .string (Str k) es i = some ((fnd k L i).map fun p => (p.1, .int .i64 p.2.2))
  | [], [], i, _ => rfl
  | [], _ :: _, i, h => by simp at h
  | _ :: _, [], i, h => by simp at h
  | e :: es, x :: L, i, h => by
    simp only [List.map_cons, List.cons.injEq] at h
    obtain ⟨h1, h2⟩ := h
    have ek : e.key = Str x.1 := congrArg Prod.fst h1
    have ev : e.val = .int .i64 x.2 := congrArg Prod.snd h1
    have ih := findNow_str k es L (i + 1) h2
    by_cases hk : k = x.1
    · simp [Instr.findNow, ek, Str, Instr.sameNow, bytesB, hk, fnd, ev]
    · simp only [Instr.findNow, ek, Str, Instr.sameNow, bytesB, hk, fnd, decide_false, if_false]
      exact ih
def MH : ML (List UInt8) Int where
  kE := Str
  vE := fun z => .int .i64 z
  z := 0
  tm := 69
  tk := 9
  tv := 3
  inj := fun a b h => str_inj h
  under := Try.underlying69
  check := fun b k w => checkS 9998 b k w
  stays := fun k w => by
    have h : Instr.sameBits 10000 (Str k) (Str k) = true := by
      unfold Str
      simp [Instr.sameBits, bytesB]
    simp [Instr.keyThatStays, h]
  zero := fun w => by kernel_rfl
  find := fun k w es L h => by
    unfold Instr.findKey
    rw [Sem.run_bind, run_underlying Try.underlying9]
    simp only [Result.andThen]
    rw [findNow_str k es L 0 h]
    rfl
/-- What a call asks for. -/
structure OpA where
  k : Int
  n : List UInt8
  a : Int
  b : Int
  deriving DecidableEq
def callV (c : Int × Int) : Value := .agg #[.int .i64 c.1, .int .i64 c.2]
def opV (o : OpA) : Value := .agg #[.int .i64 o.k, .string ⟨o.n.toArray⟩, .int .i64 o.a, .int .i64 o.b]
set_option maxHeartbeats 2000000 in
theorem eqc_in (n : Nat) (a b c d : Int) (w : World) : (Go.Op.equalIn (n + 2) 37 (callV (a, b)) (callV (c, d))).run Try.prog w = .ok (a == c && b == d) w := by
  have h0 : Try.prog.stoodInHeld 37 = false := by kernel_rfl
  have e1 : (Go.Op.equalIn (n + 1) 3 (.int .i64 a) (.int .i64 c)).run Try.prog w = .ok (a == c) w := by kernel_rfl
  have e2 : (Go.Op.equalIn (n + 1) 3 (.int .i64 b) (.int .i64 d)).run Try.prog w = .ok (b == d) w := by kernel_rfl
  unfold callV
  unfold Go.Op.equalIn
  cases hx : (a == c) <;> cases hy : (b == d) <;> rw [hx] at e1 <;> rw [hy] at e2 <;> simp [go_sem, h0, Result.andThen, e1, e2, run_underlying Try.underlying37]
theorem eq_call (x y : Int × Int) (w : World) : (Go.Op.equal 37 (callV x) (callV y)).run Try.prog w = .ok (decide (x = y)) w := by
  obtain ⟨a, b⟩ := x
  obtain ⟨c, d⟩ := y
  rw [show decide ((a, b) = (c, d)) = (a == c && b == d) from by
    by_cases h1 : a = c <;> by_cases h2 : b = d <;> simp [h1, h2]]
  exact eqc_in 9998 a b c d w
theorem call_inj {x y : Int × Int} (h : callV x = callV y) : x = y := by
  obtain ⟨a, b⟩ := x
  obtain ⟨c, d⟩ := y
  unfold callV at h
  simpa using h
theorem findAsk_call (k : Int × Int) (w : World) : ∀ (es : List MapEntry) (L : List ((Int × Int) × OpA)) (i : Nat), es.map kv = L.map (encP callV opV) → (Instr.findAsking 37 (callV k) es i).run Try.prog w = .ok ((fnd k L i).map fun p => (p.1, opV p.2.2)) w
  | [], [], i, _ => rfl
  | [], _ :: _, i, h => by simp at h
  | _ :: _, [], i, h => by simp at h
  | e :: es, x :: L, i, h => by
    simp only [List.map_cons, List.cons.injEq] at h
    obtain ⟨h1, h2⟩ := h
    have ek : e.key = callV x.1 := congrArg Prod.fst h1
    have ev : e.val = opV x.2 := congrArg Prod.snd h1
    unfold Instr.findAsking
    rw [Sem.run_bind, ek, eq_call]
    by_cases hk : k = x.1
    · simp [fnd, hk, ev, Result.andThen]
    · have := findAsk_call k w es L (i + 1) h2
      simp [fnd, hk, Result.andThen]
      exact this
theorem checkC (n : Nat) (b : Bool) (k : Int × Int) (w : World) : (Instr.checkKey b (n + 2) 37 (callV k)).run Try.prog w = .ok () w := by
  unfold callV
  simp [Instr.checkKey, go_sem, Result.andThen, run_underlying Try.underlying37, run_underlying Try.underlying3]
def MC : ML (Int × Int) OpA where
  kE := callV
  vE := opV
  z := ⟨0, [], 0, 0⟩
  tm := 70
  tk := 37
  tv := 39
  inj := fun a b h => call_inj h
  under := Try.underlying70
  check := fun b k w => checkC 9998 b k w
  stays := fun k w => by
    have h : Instr.sameBits 10000 (callV k) (callV k) = true := by
      unfold callV
      show (_ && _) = true
      simp [Instr.sameBits]
    simp [Instr.keyThatStays, h]
  zero := fun w => by kernel_rfl
  find := fun k w es L h => by
    unfold Instr.findKey
    rw [Sem.run_bind, run_underlying Try.underlying37]
    simp only [Result.andThen]
    match es, L, h with
    | [], [], _ => rfl
    | [], _ :: _, h => simp at h
    | _ :: _, [], h => simp at h
    | e :: es, x :: L, h =>
      have := findAsk_call k w (e :: es) (x :: L) 0 h
      simp only [List.map_cons, List.cons.injEq] at h
      have ek : e.key = callV x.1 := congrArg Prod.fst h.1
      have e0 : ∀ d, Instr.sameNow (.struct d) (callV k) (callV x.1) = none := fun d => rfl
      simp only [Instr.findNow, ek, e0]
      exact this
/-- A table in memory: block hb, its two maps. -/
structure Tb (hb mh mw : Nat) (me rep per : Int) (KN : List (List UInt8 × Int)) (WT : List ((Int × Int) × OpA)) (w : World) : Prop where
  blk : Blk w hb #[.int .i64 me, .int .i64 rep, .int .i64 per, .map (some mh), .map (some mw)] 72
  hm : HMap MH w mh KN
  wm : HMap MC w mw WT
  ne : mh ≠ mw
section
variable {hb mh mw : Nat} {me rep per : Int} {KN KN' : List (List UInt8 × Int)} {WT WT' : List ((Int × Int) × OpA)} {w w' : World}
theorem Tb.c0 (h : Tb hb mh mw me rep per KN WT w) : w.cell? ⟨hb, 0, none⟩ = some (.int .i64 me) := h.blk.cell 0
theorem Tb.c1 (h : Tb hb mh mw me rep per KN WT w) : w.cell? ⟨hb, 1, none⟩ = some (.int .i64 rep) := h.blk.cell 1
theorem Tb.c2 (h : Tb hb mh mw me rep per KN WT w) : w.cell? ⟨hb, 2, none⟩ = some (.int .i64 per) := h.blk.cell 2
theorem Tb.c3 (h : Tb hb mh mw me rep per KN WT w) : w.cell? ⟨hb, 3, none⟩ = some (.map (some mh)) := h.blk.cell 3
theorem Tb.c4 (h : Tb hb mh mw me rep per KN WT w) : w.cell? ⟨hb, 4, none⟩ = some (.map (some mw)) := h.blk.cell 4
theorem Tb.keep (h : Tb hb mh mw me rep per KN WT w) {A : Nat → Prop} (hc : Chg A w w') (a1 : ¬ A hb) (a2 : ¬ A mh) (a3 : ¬ A mw) : Tb hb mh mw me rep per KN WT w' := ⟨hc.blk h.blk a1, h.hm.same (hc.block mh h.hm.lt a2), h.wm.same (hc.block mw h.wm.lt a3), h.ne⟩
theorem Tb.more (h : Tb hb mh mw me rep per KN WT w) (hb2 : Below w.heap.size w w') : Tb hb mh mw me rep per KN WT w' := h.keep (Chg.ofBelow (fun _ => False) hb2) (fun e => e) (fun e => e) (fun e => e)
theorem Tb.putH (h : Tb hb mh mw me rep per KN WT w) (hc : Chg (fun k => k = mh) w w') (hm : HMap MH w' mh KN') : Tb hb mh mw me rep per KN' WT w' := ⟨hc.blk h.blk (h.hm.ne_b h.blk), hm, h.wm.same (hc.block mw h.wm.lt (fun e => h.ne e.symm)), h.ne⟩
theorem Tb.putW (h : Tb hb mh mw me rep per KN WT w) (hc : Chg (fun k => k = mw) w w') (hm : HMap MC w' mw WT') : Tb hb mh mw me rep per KN WT' w' := ⟨hc.blk h.blk (h.wm.ne_b h.blk), h.hm.same (hc.block mh h.hm.lt h.ne), hm, h.ne⟩
end
end Go.Proofs.Ytbjlaloofpdbfaa
