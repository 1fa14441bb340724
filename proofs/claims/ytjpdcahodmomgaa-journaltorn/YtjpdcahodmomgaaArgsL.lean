import Derived.Test.YtjpdcahodmomgaaArgs
import Derived.Test.YtjpdcahodmomgaaJn19
import Derived.Test.YtjpdcahodmomgaaJt10
namespace Go.Proofs.Ytjpdcahodmomgaa
open Go.ChangeShapes Go.WideShapes Go.ChangeAt Go.RowKit Go.WideMaps Go.WideElems Go.PlainAid
set_option linter.unusedVariables false
theorem cells38' : Try.prog.cellsOf 38 = 1 := by kernel_rfl
theorem cells30r : Try.prog.cellsOf 30 = 1 := by kernel_rfl
theorem cells4 : Try.prog.cellsOf 4 = 1 := by kernel_rfl
theorem cells51 : Try.prog.cellsOf 51 = 4 := by kernel_rfl
section
variable {H : Type} {enc : TypeId × Value → H} {W : World} {fuel : Nat} {cs : List Value} {x : DataW H × List MemPlace}
set_option maxRecDepth 100000
set_option maxHeartbeats 1600000
/-- A slice within something that came in, whatever its elements. -/
theorem open_rowsT {α : Type} (T e : TypeId) (sz : Nat) (f : α → List Value) (ok : α → Prop) (hu : Try.prog.underlying T = some (.slice e)) (hc : Try.prog.cellsOf e = sz) (h1 : 0 < sz) (hfl : ∀ a, (f a).length = sz)
    (hel : ∀ (fuel : Nat) (cs : List Value) (x : DataW H × List MemPlace), DataW.trod enc Try.prog W 0 (fun _ => true) true fuel e cs = some x → (∀ n ∈ x.1.weights Try.prog e, n ≤ reachBytes) → ∃ a, cs = f a ∧ ok a)
    {fuel : Nat} {cs0 : List Value} {x0 : DataW H × List MemPlace} (hf : DataW.trod enc Try.prog W 0 (fun _ => true) true fuel T cs0 = some x0) (hsz : ∀ n ∈ x0.1.weights Try.prog T, n ≤ reachBytes) :
    ∃ (ao : Option Addr) (N cap : Nat) (os : List α), cs0 = [.slice ao N cap] ∧ os.length = N ∧ N ≤ cap ∧ cap ≤ maxLen ∧ (∀ o ∈ os, ok o) ∧ (ao = none → N = 0 ∧ cap = 0) ∧ (0 < N → ∃ b off, ao = some ⟨b, off, none⟩ ∧ ∀ i o, os[i]? = some o → RowAt W b (off + i * sz) (f o)) := by
  rcases DataW.trod_slice hu hf with ⟨hcs, hx⟩ | ⟨a, len', cap', elems, rest, m, _, hcs, hx, _, hl, hm, hel2, he, _, _⟩
  · exact ⟨none, 0, 0, [], hcs, rfl, Nat.le_refl _, Nat.zero_le _, (fun c hc => by cases hc), fun _ => ⟨rfl, rfl⟩, fun h => by omega⟩
  · rw [hc] at he
    have hxd : x0.1 = .slice (elems.map (·.1)) (rest.map (·.1)) := by rw [hx]
    obtain ⟨cs, hcl, hcc⟩ := list_of (fun i o => (∃ b off, a.add (i * sz) = ⟨b, off, none⟩ ∧ RowAt W b off (f o)) ∧ ok o) len' fun i hi => by
      have h2 := he i hi
      rw [List.getElem?_eq_getElem (by omega), Option.bind_eq_some_iff] at h2
      obtain ⟨cs, hcs2, ht⟩ := h2
      obtain ⟨_, hl2, hcell⟩ := World.cells?_some hcs2
      obtain ⟨o, rfl, ho⟩ := hel _ _ _ ht fun n hn => hsz n (by
        rw [hxd]
        simp only [DataW.weights, hu]
        refine List.mem_cons.2 (.inr (List.mem_append.2 (.inl ?_)))
        exact weights_all (i := i) (d := elems[i].1) (by rw [List.getElem?_map, List.getElem?_eq_getElem (by omega)]; rfl) n hn)
      have a0 := hcell 0 (by omega)
      rw [List.getElem?_eq_getElem (by rw [hfl]; exact h1)] at a0
      obtain ⟨b, off, e2⟩ := spot_none (show W.cell? (a.add (i * sz)) = some _ from a0)
      refine ⟨o, ⟨b, off, e2, fun j v hv => ?_⟩, ho⟩
      have hj := (List.getElem?_eq_some_iff.1 hv).1
      have := hcell j (by rw [hfl] at hj; omega)
      rw [e2, addr_add, hv] at this
      exact this
    refine ⟨some a, len', cap', cs, hcs, hcl, hl, by omega, fun c hcm => ?_, (fun h => by cases h), fun hN => ?_⟩
    · obtain ⟨i, hi⟩ := List.getElem?_of_mem hcm
      exact (hcc i c hi).2
    · obtain ⟨⟨b, off, e0, _⟩, _⟩ := hcc 0 cs[0] (List.getElem?_eq_getElem (by omega))
      rw [Nat.zero_mul, show a.add 0 = a from rfl] at e0
      subst e0
      refine ⟨b, off, rfl, fun i c hi => ?_⟩
      obtain ⟨⟨b2, off2, e2, h2⟩, _⟩ := hcc i c hi
      rw [addr_add] at e2
      cases e2
      exact h2

theorem t_lists (h : DataW.trod enc Try.prog W 0 (fun _ => true) true fuel 30 cs = some x) (hw : ∀ n ∈ x.1.weights Try.prog 30, n ≤ reachBytes) : ∃ (v : Value) (ds : List (Value × List UInt8)), cs = [v] ∧ RowsV W v ds ∧ ds.length ≤ 9223372036854775807 ∧ ∀ d ∈ ds, d.2.length ≤ 140737488351232 := by
  obtain ⟨ao, N, cap, os, e, hl, hnc, hcm, hok, hnl, hat⟩ := open_rowsT 30 38 1 (fun d : Dv => [d.v]) (fun d : Dv => By W d.v d.s ∧ d.s.length ≤ reachBytes) Try.underlying30 cells38' (by decide) (fun _ => rfl) (fun _ _ _ h hw => t_bytes h hw) h hw
  refine ⟨_, os.map (fun d => (d.v, d.s)), e, ⟨ao, cap, by rw [List.length_map, hl], fun i d hd => ?_⟩, by rw [List.length_map, hl]; unfold maxLen at hcm; omega, fun d hd => ?_⟩
  · rw [List.getElem?_map] at hd
    cases ho : os[i]? with
    | none => rw [ho] at hd; cases hd
    | some o =>
      rw [ho] at hd
      cases hd
      have hlt := (List.getElem?_eq_some_iff.1 ho).1
      obtain ⟨b, off, e1, e2⟩ := hat (by omega)
      have := e2 i o ho 0 o.v rfl
      rw [Nat.mul_one, Nat.add_zero] at this
      exact ⟨⟨b, off, e1, this⟩, (hok o (List.mem_of_getElem? ho)).1⟩
  · obtain ⟨o, ho, rfl⟩ := List.mem_map.1 hd
    have := (hok o ho).2
    unfold reachBytes at this
    show o.s.length ≤ _
    omega
theorem t_life (h : DataW.trod enc Try.prog W 0 (fun _ => true) true fuel 51 cs = some x) (hw : ∀ n ∈ x.1.weights Try.prog 51, n ≤ reachBytes) : ∃ l : Lf, cs = l.row ∧ (l.Ok ∧ RowsV W l.rv l.ds) := by
  obtain ⟨xs, mm, _, hx, hl, hxl, hf⟩ := DataW.trod_struct Try.underlying51 h
  have hxl' : xs.length = 4 := hxl
  rw [cells51] at hl
  obtain ⟨c0, l1, rfl, k1⟩ := uncons hl
  obtain ⟨c1, l2, rfl, k2⟩ := uncons k1
  obtain ⟨c2, l3, rfl, k3⟩ := uncons k2
  obtain ⟨c3, l4, rfl, k4⟩ := uncons k3
  obtain rfl := List.eq_nil_of_length_eq_zero k4
  have y0 : xs[0]? = some xs[0] := List.getElem?_eq_getElem (by omega)
  have f0 : DataW.trod enc Try.prog W 0 (fun _ => true) true mm 30 [c0] = some xs[0] := by
    have e : DataW.trod enc Try.prog W 0 (fun _ => true) true mm 30 (List.take (Try.prog.cellsOf 30) (List.drop 0 [c0, c1, c2, c3])) = xs[0]? := hf 0 _ rfl
    rw [cells30r, y0] at e
    exact e
  have y1 : xs[1]? = some xs[1] := List.getElem?_eq_getElem (by omega)
  have f1 : DataW.trod enc Try.prog W 0 (fun _ => true) true mm 3 [c1] = some xs[1] := by
    have e : DataW.trod enc Try.prog W 0 (fun _ => true) true mm 3 (List.take (Try.prog.cellsOf 3) (List.drop 1 [c0, c1, c2, c3])) = xs[1]? := hf 1 _ rfl
    rw [cells3', y1] at e
    exact e
  have y2 : xs[2]? = some xs[2] := List.getElem?_eq_getElem (by omega)
  have f2 : DataW.trod enc Try.prog W 0 (fun _ => true) true mm 3 [c2] = some xs[2] := by
    have e : DataW.trod enc Try.prog W 0 (fun _ => true) true mm 3 (List.take (Try.prog.cellsOf 3) (List.drop 2 [c0, c1, c2, c3])) = xs[2]? := hf 2 _ rfl
    rw [cells3', y2] at e
    exact e
  have y3 : xs[3]? = some xs[3] := List.getElem?_eq_getElem (by omega)
  have f3 : DataW.trod enc Try.prog W 0 (fun _ => true) true mm 4 [c3] = some xs[3] := by
    have e : DataW.trod enc Try.prog W 0 (fun _ => true) true mm 4 (List.take (Try.prog.cellsOf 4) (List.drop 3 [c0, c1, c2, c3])) = xs[3]? := hf 3 _ rfl
    rw [cells4, y3] at e
    exact e
  obtain ⟨v, ds, e0, hr, hn, hd⟩ := t_lists f0 (w_part (i := 0) Try.underlying51 hx hw rfl y0)
  obtain ⟨z1, e1, h1⟩ := t_int Try.underlying3 f1
  obtain ⟨z2, e2, h2⟩ := t_int Try.underlying3 f2
  obtain ⟨b, e3, _⟩ := DataW.trod_bool Try.underlying4 f3
  cases e0
  cases e1
  cases e2
  cases e3
  exact ⟨⟨_, ds, z1, z2, b⟩, rfl, ⟨h1.2, hn, hd⟩, hr⟩
end
theorem bytes51 : 1 ≤ Try.prog.bytesOf 51 := of_decide_eq_true (by kernel_rfl)
theorem rows_len {H : Type} {enc : TypeId × Value → H} {W : World} {T e : TypeId} (hu : Try.prog.underlying T = some (.slice e)) (hb : 1 ≤ Try.prog.bytesOf e) {v : Value} {d : DataW H} {p : List MemPlace} (h0 : DataW.Trod enc Try.prog W 0 (fun _ => true) true T v d p) (hsz : ∀ n ∈ d.weights Try.prog T, n ≤ reachBytes) {ao : Option Addr} {N cap : Nat} (hv : v = .slice ao N cap) : N ≤ reachBytes := by
  obtain ⟨fuel, hf⟩ := h0
  subst hv
  rcases DataW.trod_slice hu hf with ⟨hcs, hx⟩ | ⟨a, len', cap', elems, rest, m, _, hcs, hx, _, hl, hm, hel2, he, _, _⟩
  · have e1 : Value.slice ao N cap = .slice none 0 0 := by simpa [Value.cells] using hcs
    cases e1
    exact Nat.zero_le _
  · have e1 : Value.slice ao N cap = .slice (some a) len' cap' := by simpa [Value.cells] using hcs
    cases e1
    have hxd : d = .slice (elems.map (·.1)) (rest.map (·.1)) := (Prod.mk.inj hx).1
    have hm : ((elems.map (·.1)).length + (rest.map (·.1)).length) * Try.prog.bytesOf e ≤ reachBytes := hsz _ (by
      rw [hxd]
      simp only [DataW.weights, hu]
      exact List.mem_cons.2 (.inl rfl))
    rw [List.length_map] at hm
    have h1 := Nat.mul_le_mul_left (elems.length + (rest.map (·.1)).length) hb
    omega
theorem lives_of {W : World} {ao : Option Addr} {N cap : Nat} {os : List Lf} (hl : os.length = N) (hok : ∀ o ∈ os, o.Ok ∧ RowsV W o.rv o.ds) (hat : 0 < N → ∃ b off, ao = some ⟨b, off, none⟩ ∧ ∀ i o, os[i]? = some o → RowAt W b (off + i * 4) o.row) : LivesV W (.slice ao N cap) os := by
  refine ⟨ao, cap, by rw [hl], fun i l hi => ⟨?_, (hok l (List.mem_of_getElem? hi)).2⟩⟩
  have hlt := (List.getElem?_eq_some_iff.1 hi).1
  obtain ⟨b, off, e1, e2⟩ := hat (by omega)
  have h := e2 i l hi
  exact ⟨b, off, e1, h 0 _ rfl, h 1 _ rfl, h 2 _ rfl, h 3 _ rfl⟩
end Go.Proofs.Ytjpdcahodmomgaa
