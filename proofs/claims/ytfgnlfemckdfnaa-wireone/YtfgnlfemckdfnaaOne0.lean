import Derived.Test.YtfgnlfemckdfnaaAble
namespace Go.Proofs.Ytfgnlfemckdfnaa
open Go.RowKit Go.PlainAid

theorem whole_ok {α : Type} {c : Codec α} (hL : Lawful c) {l : List UInt8} {x : α} {k : Nat} (h : whole c l = .ok (x, k)) : c.wr x = some l := by
  unfold whole at h
  cases hr : c.rd l with
  | error j => rw [hr] at h; cases h
  | ok v =>
    obtain ⟨y, j⟩ := v
    rw [hr] at h
    simp only at h
    split at h
    · cases h
    · rename_i hj
      cases h
      obtain ⟨h1, h2⟩ := hL.back l _ j hr
      rw [h2, List.take_of_length_le (by omega)]
theorem whole_error {α : Type} {c : Codec α} (hL : Lawful c) {l : List UInt8} {k : Nat} (h : whole c l = .error k) : k ≤ l.length := by
  unfold whole at h
  cases hr : c.rd l with
  | error j => rw [hr] at h; cases h; exact hL.place l _ hr
  | ok v =>
    obtain ⟨y, j⟩ := v
    rw [hr] at h
    simp only at h
    split at h
    · cases h; omega
    · cases h

/-- Taken, or refused at a place within. -/
def Took {α : Type} (c : Codec α) (zero : α) (xs : List UInt8) (m : α) (at' er : Int) : Prop := (er = 0 ∧ at' = 0 ∧ c.wr m = some xs) ∨ (er = 20 ∧ 0 ≤ at' ∧ at' ≤ (xs.length : Nat) ∧ m = zero)
theorem Took.one {α : Type} {c : Codec α} {zero : α} {xs : List UInt8} {m : α} {at' er : Int} (h : Took c zero xs m at' er) {n : Nat} (hn : xs.length = n) {z : Bool} (hz : m = zero → z = true) : (if er == 0 then at' == 0 else er == 20 && decide (0 ≤ at') && decide (at' ≤ (n : Nat)) && z) = true := by
  rcases h with ⟨rfl, rfl, _⟩ | ⟨rfl, h1, h2, h3⟩
  · rfl
  · subst hn
    rw [hz h3, decide_eq_true h1, decide_eq_true h2]
    rfl

theorem dec_took {xs : List UInt8} {w : World} {e : Ending} {w' : World} (h : DecPost (whole message xs) w e w') : Below w.heap.size w w' ∧ ∃ m ao c at' er, e = .returned (.tuple #[.agg (msgCells m (.slice ao m.views.length c)), .int .i64 at', .int .i64 er]) ∧ VRow w' w.heap.size ao c m.views ∧ Took message Msg.zero xs m at' er := by
  obtain ⟨hb, h⟩ := h
  refine ⟨hb, ?_⟩
  cases hr : whole message xs with
  | error k =>
    rw [hr] at h
    exact ⟨Msg.zero, none, 0, k, 20, h, Or.inl ⟨rfl, rfl, rfl⟩, Or.inr ⟨rfl, by omega, by have := whole_error law_message hr; omega, rfl⟩⟩
  | ok v =>
    obtain ⟨m, k⟩ := v
    rw [hr] at h
    obtain ⟨ao, c, h1, h2⟩ := h
    exact ⟨m, ao, c, 0, 0, h1, h2, Or.inl ⟨rfl, rfl, whole_ok law_message hr⟩⟩
theorem decS_took {xs : List UInt8} {w : World} {e : Ending} {w' : World} (h : DecSPost (whole segment xs) w e w') : Below w.heap.size w w' ∧ ∃ m ao c at' er, e = .returned (.tuple #[.agg (segCells m.src m.dst m.seq m.ack (.slice ao m.data.length c)), .int .i64 at', .int .i64 er]) ∧ w'.ownsRow w.heap.size 5 1 (.slice ao m.data.length c) m.data.length (m.data.map B) ∧ Took segment ⟨0, 0, 0, 0, []⟩ xs m at' er := by
  obtain ⟨hb, h⟩ := h
  refine ⟨hb, ?_⟩
  cases hr : whole segment xs with
  | error k =>
    rw [hr] at h
    exact ⟨⟨0, 0, 0, 0, []⟩, none, 0, k, 20, h, World.ownsRow_nil _ _ _ _, Or.inr ⟨rfl, by omega, by have := whole_error law_segment hr; omega, rfl⟩⟩
  | ok v =>
    obtain ⟨m, k⟩ := v
    rw [hr] at h
    obtain ⟨ao, c, h1, h2⟩ := h
    exact ⟨m, ao, c, 0, 0, h1, h2, Or.inl ⟨rfl, rfl, whole_ok law_segment hr⟩⟩
theorem decQ_took {xs : List UInt8} {w : World} {e : Ending} {w' : World} (h : DecQPost (whole request xs) w e w') : Below w.heap.size w w' ∧ ∃ q o at' er, e = .returned (.tuple #[.agg (callCells q), .agg (opCells o), .int .i64 at', .int .i64 er]) ∧ Took request ((0, 0), 0, [], 0, 0) xs (q, o) at' er := by
  obtain ⟨hb, h⟩ := h
  refine ⟨hb, ?_⟩
  cases hr : whole request xs with
  | error k =>
    rw [hr] at h
    exact ⟨(0, 0), (0, [], 0, 0), k, 20, h, Or.inr ⟨rfl, by omega, by have := whole_error law_request hr; omega, rfl⟩⟩
  | ok v =>
    obtain ⟨⟨q, o⟩, k⟩ := v
    rw [hr] at h
    exact ⟨q, o, 0, 0, h, Or.inl ⟨rfl, rfl, whole_ok law_request hr⟩⟩
theorem decR_took {xs : List UInt8} {w : World} {e : Ending} {w' : World} (h : DecRPost (whole reply xs) w e w') : Below w.heap.size w w' ∧ ∃ r at' er, e = .returned (.tuple #[.agg (repCells r), .int .i64 at', .int .i64 er]) ∧ Took reply ((0, 0), 0, 0) xs r at' er := by
  obtain ⟨hb, h⟩ := h
  refine ⟨hb, ?_⟩
  cases hr : whole reply xs with
  | error k =>
    rw [hr] at h
    exact ⟨((0, 0), 0, 0), k, 20, h, Or.inr ⟨rfl, by omega, by have := whole_error law_reply hr; omega, rfl⟩⟩
  | ok v =>
    obtain ⟨r, k⟩ := v
    rw [hr] at h
    exact ⟨r, 0, 0, h, Or.inl ⟨rfl, rfl, whole_ok law_reply hr⟩⟩
end Go.Proofs.Ytfgnlfemckdfnaa
namespace Go.Proofs.Ytfgnlfemckdfnaa
open Go.RowKit Go.PlainAid

theorem VRow.vfrom {w : World} {base : Nat} {ao : Option Addr} {c : Nat} {l : List View} (h : VRow w base ao c l) : VFrom w ao l ∧ ∀ b o, ao = some ⟨b, o, none⟩ → b < w.heap.size := by
  rcases h with ⟨rfl, rfl, _⟩ | ⟨vb, rfl, _, _, _, hB⟩
  · exact ⟨fun i x h => (by cases h), fun b o h => (by cases h)⟩
  · refine ⟨fun i x hx => ⟨vb, 0, rfl, fun j cc hc => ?_⟩, fun b o h => (by cases h; exact hB.lt)⟩
    rw [Nat.zero_add, hB.cell, List.getElem?_toArray]
    exact cellsOf_get l i j x hx cc hc

theorem Fr.lit {N : Nat} {a : Act} {f : Nat → Value} (h : Fr N a f) : a = { tmps := ((List.range N).map f).toArray, defers := [] } := by
  obtain ⟨t, d⟩ := a
  have h1 := h.size
  have h2 := h.defers
  simp only at h1 h2
  subst h2
  congr 1
  apply Array.ext_getElem?
  intro i
  by_cases hi : i < N
  · rw [h.get i hi]
    simp [hi]
  · rw [Array.getElem?_eq_none (by omega), Array.getElem?_eq_none (by simp; omega)]
end Go.Proofs.Ytfgnlfemckdfnaa
namespace Go.Proofs.Ytfgnlfemckdfnaa
open Go.RowKit Go.PlainAid
set_option linter.unusedSimpArgs false

theorem eql55 (xs xi xe xv ys yi ye yv : Int) (w : World) : Sem.run Try.prog (binOp .eql 55 (.agg #[.int .i64 xs, .int .i64 xi, .int .i64 xe, .int .i64 xv]) (.agg #[.int .i64 ys, .int .i64 yi, .int .i64 ye, .int .i64 yv])) w = .ok (.bool (xs == ys && xi == yi && xe == ye && xv == yv)) w := by
  simp [go_sem]
  by_cases h : xs = ys
  · subst h
    try simp
    by_cases h : xi = yi
    · subst h
      try simp
      by_cases h : xe = ye
      · subst h
        try simp
        by_cases h : xv = yv
        · subst h
          try simp
        · simp [h]
      · simp [h]
    · simp [h]
  · simp [h]
theorem seg_some {m : Seg} {bs : List UInt8} (h : segment.wr m = some bs) : m.data.length ≤ 4000 := by
  have e := segment_wr m.src m.dst m.seq m.ack m.data
  rw [show (⟨m.src, m.dst, m.seq, m.ack, m.data⟩ : Seg) = m from rfl, h] at e
  obtain ⟨_, _, _, e⟩ := join_some e.symm
  obtain ⟨_, _, _, e⟩ := join_some e
  obtain ⟨_, _, _, e⟩ := join_some e
  obtain ⟨_, _, _, e⟩ := join_some e
  rw [dataC_wr] at e
  obtain ⟨_, _, e, _⟩ := join_some e
  have := (num_some e).2
  have : highOf m.seq ≤ 4000 := by unfold highOf; split <;> omega
  omega
theorem rep_some {r : (Int × Int) × Int × Int} {bs : List UInt8} (h : reply.wr r = some bs) : (-9223372036854775808 : Int) ≤ r.2.2 ∧ r.2.2 < 9223372036854775808 := by
  have e : reply.wr r = join (call.wr r.1) (join (errno.wr r.2.1) (signed.wr r.2.2)) := rfl
  rw [e] at h
  obtain ⟨_, _, _, h⟩ := join_some h
  obtain ⟨_, _, _, h⟩ := join_some h
  exact signed_some h
theorem req_some {q : Int × Int} {o : Int × List UInt8 × Int × Int} {bs : List UInt8} (h : request.wr (q, o) = some bs) : o.2.1.length ≤ 16 ∧ (-9223372036854775808 : Int) ≤ o.2.2.1 ∧ o.2.2.1 < 9223372036854775808 ∧ (-9223372036854775808 : Int) ≤ o.2.2.2 ∧ o.2.2.2 < 9223372036854775808 := by
  have e : request.wr (q, o) = join (call.wr q) (op.wr o) := rfl
  rw [e] at h
  obtain ⟨_, _, _, h⟩ := join_some h
  exact op_some h
end Go.Proofs.Ytfgnlfemckdfnaa
