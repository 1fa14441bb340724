import Derived.Test.YtadfmnlkfcigoaaSh
import Derived.Test.YtadfmnlkfcigoaaBeg1
import Derived.Test.YtadfmnlkfcigoaaBeg2
import Derived.Test.YtadfmnlkfcigoaaBeg3
import Derived.Test.YtadfmnlkfcigoaaBeg4
import Derived.Test.YtadfmnlkfcigoaaBeg5
import Derived.Test.YtadfmnlkfcigoaaJoinF
import Derived.Test.YtadfmnlkfcigoaaRb3
import Derived.Test.YtadfmnlkfcigoaaRb4
import Derived.Test.YtadfmnlkfcigoaaRb5
import Derived.Test.YtadfmnlkfcigoaaRbn
import Derived.Test.YtadfmnlkfcigoaaRe0
import Derived.Test.YtadfmnlkfcigoaaRe1
namespace Go.Proofs.Ytadfmnlkfcigoaa
open Go.RowKit Go.PlainAid
set_option linter.unusedVariables false
set_option linter.unusedSimpArgs false
/-- What Begin answers. -/
def resB (a : CA) (la : Int) (inn : Bool) (k : Option Rp) (s i : Int) : Rp × Bool × Int :=
  if ¬ mine a.me a.rep a.ses s then (zrp, false, 132)
  else if i < 1 ∨ 1099511627776 < i then (zrp, false, 1)
  else if la + 1 < i then (zrp, false, 131)
  else if i = la + 1 then (zrp, false, 0)
  else if inn = true then (zrp, false, 133)
  else match k with
    | some r => (r, true, 0)
    | none => (zrp, false, 130)
def isNew (a : CA) (la s i : Int) : Prop := mine a.me a.rep a.ses s ∧ 1 ≤ i ∧ i ≤ 1099511627776 ∧ i = la + 1
instance (a : CA) (la s i : Int) : Decidable (isNew a la s i) := by unfold isNew; infer_instance
def begX (a : CA) (x : CX) (s i : Int) : CX := if isNew a (x.la s) s i then { x.setLa s i with op := x.op ++ [(s, i)] } else x
theorem begin_all {a : CA} {x : CX} (s i : Int) (w : World) (hM : CM a x w) (hs : In64 s) (hbd : mine a.me a.rep a.ses s → 0 ≤ x.la s ∧ x.la s ≤ 1099511627776) (hop : ∀ c ∈ x.op, c.2 ≤ x.la c.1) :
    Calls Try.prog 13 #[.pointer (some ⟨a.cb, 0, none⟩), .agg #[.int .i64 s, .int .i64 i]] w fun e w' => e = .returned (.tuple #[.agg (rpA (resB a (x.la s) (isIn (s, i) x.op) (rfind i (x.rg s)) s i).1), .bool (resB a (x.la s) (isIn (s, i) x.op) (rfind i (x.rg s)) s i).2.1, .int .i64 (resB a (x.la s) (isIn (s, i) x.op) (rfind i (x.rg s)) s i).2.2]) ∧ CM a (begX a x s i) w' ∧ Chg a.own w w' := by
  by_cases h1 : mine a.me a.rep a.ses s
  · have hb := hbd h1
    by_cases h2 : i < 1 ∨ 1099511627776 < i
    · rw [show resB a (x.la s) (isIn (s, i) x.op) (rfind i (x.rg s)) s i = (zrp, false, 1) from by unfold resB; rw [if_neg (by simpa using h1), if_pos h2], show begX a x s i = x from if_neg (fun h => by have := h.2; omega)]
      exact begin_arg s i w hM hs h1 h2
    · have h2' : 1 ≤ i ∧ i ≤ 1099511627776 := by omega
      by_cases h3 : x.la s + 1 < i
      · rw [show resB a (x.la s) (isIn (s, i) x.op) (rfind i (x.rg s)) s i = (zrp, false, 131) from by unfold resB; rw [if_neg (by simpa using h1), if_neg h2, if_pos h3], show begX a x s i = x from if_neg (fun h => by have := h.2; omega)]
        exact begin_order s i w hM hs h1 h2' hb h3
      · by_cases h4 : i = x.la s + 1
        · rw [show resB a (x.la s) (isIn (s, i) x.op) (rfind i (x.rg s)) s i = (zrp, false, 0) from by unfold resB; rw [if_neg (by simpa using h1), if_neg h2, if_neg h3, if_pos h4], show begX a x s i = { x.setLa s i with op := x.op ++ [(s, i)] } from if_pos ⟨h1, h2'.1, h2'.2, h4⟩]
          exact begin_new s i w hM hs h1 h2' hb h4 hop
        · rw [show begX a x s i = x from if_neg (fun h => h4 h.2.2.2)]
          cases h5 : isIn (s, i) x.op with
          | true =>
            rw [show resB a (x.la s) true (rfind i (x.rg s)) s i = (zrp, false, 133) from by unfold resB; rw [if_neg (by simpa using h1), if_neg h2, if_neg h3, if_neg h4, if_pos rfl]]
            exact begin_pending s i w hM hs h1 h2' hb (by omega) h5
          | false =>
            cases h6 : rfind i (x.rg s) with
            | some rr =>
              rw [show resB a (x.la s) false (some rr) s i = (rr, true, 0) from by unfold resB; rw [if_neg (by simpa using h1), if_neg h2, if_neg h3, if_neg h4, if_neg (by simp)]]
              exact begin_kept s i w hM hs h1 h2' hb (by omega) h5 rr h6
            | none =>
              rw [show resB a (x.la s) false none s i = (zrp, false, 130) from by unfold resB; rw [if_neg (by simpa using h1), if_neg h2, if_neg h3, if_neg h4, if_neg (by simp)]]
              exact begin_stale s i w hM hs h1 h2' hb (by omega) h5 h6
  · rw [show resB a (x.la s) (isIn (s, i) x.op) (rfind i (x.rg s)) s i = (zrp, false, 132) from by unfold resB; rw [if_pos h1], show begX a x s i = x from if_neg (fun h => h1 h.1)]
    exact begin_none s i w hM hs h1
/-- The document's state behind a Begin. -/
structure RBeg (a : CA) (r r' : RS) (s i : Int) : Prop where
  new : isNew a (r.la s) s i → (∀ t, r'.la t = if t = s then i else r.la t) ∧ r'.op = r.op ++ [(s, i)] ∧ r'.rp = r.rp
  old : ¬ isNew a (r.la s) s i → r' = r
theorem RStep.same {a : CA} {B rb : Nat} {r : RS} {w w' : World} (h : RC a B rb r w') (hb : Below w.heap.size w w') : RStep a B rb r r w w' := ⟨h, Chg.ofBelow _ hb, fun k hk => Or.inl hk⟩
theorem rbegin_all {a : CA} {B rb : Nat} {r : RS} (s i : Int) (w : World) (h : RC a B rb r w) (hok : COk a) (hbd : mine a.me a.rep a.ses s → 0 ≤ r.la s ∧ r.la s ≤ 1099511627776) (hol : r.op.length ≤ 100000) (hpl : r.rp.length ≤ 100000) :
    Calls Try.prog 33 #[.pointer (some ⟨rb, 0, none⟩), .agg #[.int .i64 s, .int .i64 i]] w fun e w' => e = .returned (.tuple #[.agg (rpA (resB a (r.la s) (isIn (s, i) r.op) (keptF a.room s i r.rp) s i).1), .bool (resB a (r.la s) (isIn (s, i) r.op) (keptF a.room s i r.rp) s i).2.1, .int .i64 (resB a (r.la s) (isIn (s, i) r.op) (keptF a.room s i r.rp) s i).2.2]) ∧ ∃ r', RStep a B rb r r' w w' ∧ RBeg a r r' s i := by
  have same : ¬ isNew a (r.la s) s i → ∀ {v : Value}, Calls Try.prog 33 #[.pointer (some ⟨rb, 0, none⟩), .agg #[.int .i64 s, .int .i64 i]] w (fun e w' => e = .returned v ∧ RC a B rb r w' ∧ Below w.heap.size w w') → Calls Try.prog 33 #[.pointer (some ⟨rb, 0, none⟩), .agg #[.int .i64 s, .int .i64 i]] w fun e w' => e = .returned v ∧ ∃ r', RStep a B rb r r' w w' ∧ RBeg a r r' s i := fun hn v hc => by
    refine hc.mono ?_
    rintro e w' ⟨rfl, h1, h2⟩
    exact ⟨rfl, r, RStep.same h1 h2, ⟨fun hh => absurd hh hn, fun _ => rfl⟩⟩
  by_cases h1 : mine a.me a.rep a.ses s
  · have hb := hbd h1
    by_cases h2 : i < 1 ∨ 1099511627776 < i
    · rw [show resB a (r.la s) (isIn (s, i) r.op) (keptF a.room s i r.rp) s i = (zrp, false, 1) from by unfold resB; rw [if_neg (by simpa using h1), if_pos h2]]
      exact same (fun h => by have := h.2; omega) (rbegin_arg s i w h hok h1 h2)
    · have h2' : 1 ≤ i ∧ i ≤ 1099511627776 := by omega
      by_cases h3 : r.la s + 1 < i
      · rw [show resB a (r.la s) (isIn (s, i) r.op) (keptF a.room s i r.rp) s i = (zrp, false, 131) from by unfold resB; rw [if_neg (by simpa using h1), if_neg h2, if_pos h3]]
        exact same (fun h => by have := h.2; omega) (rbegin_order s i w h hok h1 h2' hb h3)
      · by_cases h4 : i = r.la s + 1
        · rw [show resB a (r.la s) (isIn (s, i) r.op) (keptF a.room s i r.rp) s i = (zrp, false, 0) from by unfold resB; rw [if_neg (by simpa using h1), if_neg h2, if_neg h3, if_pos h4]]
          refine (rbegin_new s i w h hok h1 h2' hb h4 hol).mono ?_
          rintro e w' ⟨rfl, vo, hst⟩
          exact ⟨rfl, _, hst, ⟨fun _ => ⟨fun t => rfl, rfl, rfl⟩, fun hn => absurd ⟨h1, h2'.1, h2'.2, h4⟩ hn⟩⟩
        · cases h5 : isIn (s, i) r.op with
          | true =>
            rw [show resB a (r.la s) true (keptF a.room s i r.rp) s i = (zrp, false, 133) from by unfold resB; rw [if_neg (by simpa using h1), if_neg h2, if_neg h3, if_neg h4, if_pos rfl]]
            exact same (fun h => h4 h.2.2.2) (rbegin_pending s i w h hok h1 h2' hb (by omega) hol h5)
          | false =>
            cases h6 : keptF a.room s i r.rp with
            | some rr =>
              rw [show resB a (r.la s) false (some rr) s i = (rr, true, 0) from by unfold resB; rw [if_neg (by simpa using h1), if_neg h2, if_neg h3, if_neg h4, if_neg (by simp)]]
              exact same (fun h => h4 h.2.2.2) (rbegin_kept s i w h hok h1 h2' hb (by omega) hol hpl h5 rr h6)
            | none =>
              rw [show resB a (r.la s) false none s i = (zrp, false, 130) from by unfold resB; rw [if_neg (by simpa using h1), if_neg h2, if_neg h3, if_neg h4, if_neg (by simp)]]
              exact same (fun h => h4 h.2.2.2) (rbegin_stale s i w h hok h1 h2' hb (by omega) hol hpl h5 h6)
  · rw [show resB a (r.la s) (isIn (s, i) r.op) (keptF a.room s i r.rp) s i = (zrp, false, 132) from by unfold resB; rw [if_pos h1]]
    exact same (fun h => h1 h.1) (rbegin_none s i w h hok h1)
/-- What End answers. -/
def resE (a : CA) (la : Int) (inn : Bool) (s i : Int) : Int := if ¬ mine a.me a.rep a.ses s then 132 else if la < i then 131 else if inn = false then 130 else 0
structure XEnd (a : CA) (x x' : CX) (y : Rp) : Prop where
  ok : resE a (x.la y.s) (isIn (y.s, y.i) x.op) y.s y.i = 0 → ∃ R', RPut a.room y (x.rg y.s) R' ∧ x' = { x.setRg y.s R' with op := x.op.erase (y.s, y.i) }
  no : resE a (x.la y.s) (isIn (y.s, y.i) x.op) y.s y.i ≠ 0 → x' = x
theorem end_all {a : CA} {x : CX} (y : Rp) (w : World) (hM : CM a x w) (hs : In64 y.s) :
    Calls Try.prog 12 #[.pointer (some ⟨a.cb, 0, none⟩), .agg #[.int .i64 y.s, .int .i64 y.i, .int .i64 y.e, .int .i64 y.v]] w fun e w' => e = .returned (.int .i64 (resE a (x.la y.s) (isIn (y.s, y.i) x.op) y.s y.i)) ∧ (∃ x', CM a x' w' ∧ XEnd a x x' y) ∧ Chg a.own w w' := by
  have same : ∀ {c : Int}, resE a (x.la y.s) (isIn (y.s, y.i) x.op) y.s y.i = c → c ≠ 0 → Calls Try.prog 12 #[.pointer (some ⟨a.cb, 0, none⟩), .agg #[.int .i64 y.s, .int .i64 y.i, .int .i64 y.e, .int .i64 y.v]] w (fun e w' => e = .returned (.int .i64 c) ∧ CM a x w' ∧ Chg a.own w w') → Calls Try.prog 12 #[.pointer (some ⟨a.cb, 0, none⟩), .agg #[.int .i64 y.s, .int .i64 y.i, .int .i64 y.e, .int .i64 y.v]] w fun e w' => e = .returned (.int .i64 (resE a (x.la y.s) (isIn (y.s, y.i) x.op) y.s y.i)) ∧ (∃ x', CM a x' w' ∧ XEnd a x x' y) ∧ Chg a.own w w' := fun hc hn hk => by
    refine hk.mono ?_
    rintro e w' ⟨rfl, h1, h2⟩
    exact ⟨by rw [hc], ⟨x, h1, ⟨fun h => absurd (hc.symm.trans h) hn, fun _ => rfl⟩⟩, h2⟩
  by_cases h1 : mine a.me a.rep a.ses y.s
  · by_cases h2 : x.la y.s < y.i
    · exact same (show _ = 131 from by unfold resE; rw [if_neg (by simpa using h1), if_pos h2]) (by decide) (end_order y.s y.i y.e y.v w hM hs h1 h2)
    · cases h3 : isIn (y.s, y.i) x.op with
      | false =>
        rw [h3] at same
        exact same (show _ = 130 from by unfold resE; rw [if_neg (by simpa using h1), if_neg h2, if_pos rfl]) (by decide) (end_stale y.s y.i y.e y.v w hM hs h1 (by omega) h3)
      | true =>
        have h0 : resE a (x.la y.s) true y.s y.i = 0 := by unfold resE; rw [if_neg (by simpa using h1), if_neg h2, if_neg (by simp)]
        rw [h0]
        refine (end_ok y.s y.i y.e y.v w hM hs h1 (by omega) h3).mono ?_
        rintro e w' ⟨rfl, ⟨R', hp, hm⟩, hc⟩
        exact ⟨rfl, ⟨_, hm, ⟨fun _ => ⟨R', hp, rfl⟩, fun h => by rw [h3, h0] at h; exact absurd rfl h⟩⟩, hc⟩
  · exact same (show _ = 132 from by unfold resE; rw [if_pos h1]) (by decide) (end_none y.s y.i y.e y.v w hM hs h1)
structure RFin (a : CA) (r r' : RS) (y : Rp) : Prop where
  ok : resE a (r.la y.s) (isIn (y.s, y.i) r.op) y.s y.i = 0 → r'.la = r.la ∧ r'.op = r.op.erase (y.s, y.i) ∧ r'.rp = r.rp ++ [y]
  no : resE a (r.la y.s) (isIn (y.s, y.i) r.op) y.s y.i ≠ 0 → r' = r
theorem rend_all {a : CA} {B rb : Nat} {r : RS} (y : Rp) (w : World) (h : RC a B rb r w) (hok : COk a) (hol : r.op.length ≤ 100000) (hpl : r.rp.length ≤ 100000) :
    Calls Try.prog 34 #[.pointer (some ⟨rb, 0, none⟩), .agg #[.int .i64 y.s, .int .i64 y.i, .int .i64 y.e, .int .i64 y.v]] w fun e w' => e = .returned (.int .i64 (resE a (r.la y.s) (isIn (y.s, y.i) r.op) y.s y.i)) ∧ ∃ r', RStep a B rb r r' w w' ∧ RFin a r r' y := by
  have same : ∀ {c : Int}, resE a (r.la y.s) (isIn (y.s, y.i) r.op) y.s y.i = c → c ≠ 0 → Calls Try.prog 34 #[.pointer (some ⟨rb, 0, none⟩), .agg #[.int .i64 y.s, .int .i64 y.i, .int .i64 y.e, .int .i64 y.v]] w (fun e w' => e = .returned (.int .i64 c) ∧ RC a B rb r w' ∧ Below w.heap.size w w') → Calls Try.prog 34 #[.pointer (some ⟨rb, 0, none⟩), .agg #[.int .i64 y.s, .int .i64 y.i, .int .i64 y.e, .int .i64 y.v]] w fun e w' => e = .returned (.int .i64 (resE a (r.la y.s) (isIn (y.s, y.i) r.op) y.s y.i)) ∧ ∃ r', RStep a B rb r r' w w' ∧ RFin a r r' y := fun hc hn hk => by
    refine hk.mono ?_
    rintro e w' ⟨rfl, h1, h2⟩
    exact ⟨by rw [hc], r, RStep.same h1 h2, ⟨fun h => absurd (hc.symm.trans h) hn, fun _ => rfl⟩⟩
  by_cases h1 : mine a.me a.rep a.ses y.s
  · by_cases h2 : r.la y.s < y.i
    · exact same (show _ = 131 from by unfold resE; rw [if_neg (by simpa using h1), if_pos h2]) (by decide) (rend_order y.s y.i y.e y.v w h hok h1 h2)
    · cases h3 : isIn (y.s, y.i) r.op with
      | false =>
        rw [h3] at same
        exact same (show _ = 130 from by unfold resE; rw [if_neg (by simpa using h1), if_neg h2, if_pos rfl]) (by decide) (rend_stale y.s y.i y.e y.v w h hok h1 (by omega) hol h3)
      | true =>
        have h0 : resE a (r.la y.s) true y.s y.i = 0 := by unfold resE; rw [if_neg (by simpa using h1), if_neg h2, if_neg (by simp)]
        rw [h0]
        refine (rend_ok y.s y.i y.e y.v w h hok h1 (by omega) hol hpl h3).mono ?_
        rintro e w' ⟨rfl, vo, vr, hst⟩
        exact ⟨rfl, _, hst, ⟨fun _ => ⟨rfl, rfl, rfl⟩, fun h => by rw [h3, h0] at h; exact absurd rfl h⟩⟩
  · exact same (show _ = 132 from by unfold resE; rw [if_pos h1]) (by decide) (rend_none y.s y.i y.e y.v w h hok h1)
section
variable {a : CA} {x : CX} {r r' : RS}
theorem Agr.new0 (a : CA) (vo vr : Value) : Agr a cx0 ⟨vo, vr, fun _ => 0, [], []⟩ :=
  ⟨fun s _ => rfl, rfl, fun s _ => ⟨by simp [cx0], by simp [cx0]⟩, (fun c h => by cases h), List.nodup_nil, (fun y h => by cases h), List.Pairwise.nil, fun s _ => Kp.nil _ _⟩
theorem Agr.resB (h : Agr a x r) (hok : COk a) (s i : Int) : resB a (r.la s) (isIn (s, i) r.op) (keptF a.room s i r.rp) s i = Go.Proofs.Ytadfmnlkfcigoaa.resB a (x.la s) (isIn (s, i) x.op) (rfind i (x.rg s)) s i := by
  by_cases hm : mine a.me a.rep a.ses s
  · rw [h.la s hm, h.op, (h.kp s hm).finds h.once (by have := hok.room; omega) i]
  · unfold Go.Proofs.Ytadfmnlkfcigoaa.resB
    rw [if_pos hm, if_pos hm]
theorem Agr.hop (h : Agr a x r) : ∀ c ∈ x.op, c.2 ≤ x.la c.1 := fun c hc => (h.opb c hc).2.2
theorem Agr.beg (h : Agr a x r) {s i : Int} (hb : RBeg a r r' s i) : Agr a (begX a x s i) r' := by
  by_cases hn : isNew a (x.la s) s i
  · have hn' : isNew a (r.la s) s i := by rw [h.la s hn.1]; exact hn
    obtain ⟨e1, e2, e3⟩ := hb.new hn'
    obtain ⟨hm, h1, h2, h3⟩ := hn
    rw [show begX a x s i = { x.setLa s i with op := x.op ++ [(s, i)] } from if_pos ⟨hm, h1, h2, h3⟩]
    have up : ∀ t, x.la t ≤ if t = s then i else x.la t := fun t => by
      by_cases e : t = s
      · rw [if_pos e, e]; omega
      · rw [if_neg e]; omega
    have nin : (s, i) ∉ x.op := fun hc => by have := (h.opb _ hc).2.2; simp only at this; omega
    refine ⟨fun t ht => ?_, by rw [e2, h.op], fun t ht => ?_, fun c hc => ?_, ?_, fun y hy => ?_, by rw [e3]; exact h.once, fun t ht => by rw [e3]; exact h.kp t ht⟩
    · rw [e1]
      simp only [CX.setLa]
      by_cases e : t = s
      · rw [if_pos e, if_pos e]
      · rw [if_neg e, if_neg e]; exact h.la t ht
    · simp only [CX.setLa]
      by_cases e : t = s
      · rw [if_pos e]; omega
      · rw [if_neg e]; exact h.bd t ht
    · simp only [CX.setLa]
      rcases List.mem_append.1 hc with h4 | h4
      · have := h.opb c h4
        have := up c.1
        exact ⟨(h.opb c h4).1, (h.opb c h4).2.1, by omega⟩
      · simp at h4
        subst h4
        exact ⟨hm, h1, by simp⟩
    · rw [List.nodup_append]
      exact ⟨h.opn, by simp, fun u hu v hv => by simp at hv; subst hv; exact fun e => nin (e ▸ hu)⟩
    · rw [e3] at hy
      obtain ⟨a1, a2, a3, a4⟩ := h.rpb y hy
      simp only [CX.setLa]
      have := up y.s
      refine ⟨a1, a2, by omega, fun hc => ?_⟩
      rcases List.mem_append.1 hc with h4 | h4
      · exact a4 h4
      · simp at h4
        obtain ⟨b1, b2⟩ := h4
        rw [b1] at a3
        omega
  · have hn' : ¬ isNew a (r.la s) s i := fun hh => hn (by rw [← h.la s hh.1]; exact hh)
    rw [hb.old hn', show begX a x s i = x from if_neg hn]
    exact h
theorem Agr.resE (h : Agr a x r) (s i : Int) : resE a (r.la s) (isIn (s, i) r.op) s i = Go.Proofs.Ytadfmnlkfcigoaa.resE a (x.la s) (isIn (s, i) x.op) s i := by
  by_cases hm : mine a.me a.rep a.ses s
  · rw [h.la s hm, h.op]
  · unfold Go.Proofs.Ytadfmnlkfcigoaa.resE
    rw [if_pos hm, if_pos hm]
theorem Agr.fin (h : Agr a x r) (hok : COk a) {x' : CX} {y : Rp} (h1 : XEnd a x x' y) (h2 : RFin a r r' y) : Agr a x' r' := by
  have he := h.resE y.s y.i
  by_cases h0 : Go.Proofs.Ytadfmnlkfcigoaa.resE a (x.la y.s) (isIn (y.s, y.i) x.op) y.s y.i = 0
  · obtain ⟨R', hp, rfl⟩ := h1.ok h0
    obtain ⟨e1, e2, e3⟩ := h2.ok (by rw [he]; exact h0)
    have hm : mine a.me a.rep a.ses y.s := by
      refine Decidable.byContradiction fun hn => ?_
      unfold Go.Proofs.Ytadfmnlkfcigoaa.resE at h0
      rw [if_pos hn] at h0
      cases h0
    have hin : (y.s, y.i) ∈ x.op := by
      refine Decidable.byContradiction fun hn => ?_
      have : isIn (y.s, y.i) x.op = false := by simpa [isIn] using hn
      unfold Go.Proofs.Ytadfmnlkfcigoaa.resE at h0
      rw [if_neg (by simpa using hm), this] at h0
      split at h0
      · cases h0
      · simp at h0
    have hsub : ∀ c ∈ x.op.erase (y.s, y.i), c ∈ x.op := fun c hc => List.mem_of_mem_erase hc
    have hny : (y.s, y.i) ∉ x.op.erase (y.s, y.i) := fun hc => (h.opn.not_mem_erase) hc
    have hnew : ∀ z ∈ r.rp, ¬ (z.s = y.s ∧ z.i = y.i) := fun z hz hc => (h.rpb z hz).2.2.2 (by rw [hc.1, hc.2]; exact hin)
    refine ⟨fun t ht => by rw [e1]; exact h.la t ht, by rw [e2, h.op], fun t ht => h.bd t ht, fun c hc => h.opb c (hsub c hc), h.opn.erase _, fun z hz => ?_, ?_, fun t ht => ?_⟩
    · rw [e3] at hz
      rcases List.mem_append.1 hz with h4 | h4
      · obtain ⟨b1, b2, b3, b4⟩ := h.rpb z h4
        exact ⟨b1, b2, b3, fun hc => b4 (hsub _ hc)⟩
      · simp at h4
        subst h4
        have := h.opb _ hin
        exact ⟨hm, this.2.1, this.2.2, hny⟩
    · rw [e3]
      unfold Once
      rw [List.pairwise_append]
      exact ⟨h.once, by simp, fun u hu v hv => by simp at hv; subst hv; exact hnew u hu⟩
    · rw [e3]
      simp only [CX.setRg]
      by_cases e : t = y.s
      · rw [if_pos e]
        subst e
        exact (h.kp _ hm).put (by have := hok.room; omega) y rfl (fun z hz hs hi => hnew z hz ⟨hs, hi⟩) hp
      · rw [if_neg e]
        exact (h.kp t ht).other y (fun q => e q.symm)
  · rw [h1.no h0, h2.no (by rw [he]; exact h0)]
    exact h
end
end Go.Proofs.Ytadfmnlkfcigoaa
