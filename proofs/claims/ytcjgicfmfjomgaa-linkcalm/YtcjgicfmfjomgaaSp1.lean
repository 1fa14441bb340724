import Derived.Test.YtcjgicfmfjomgaaSp0
namespace Go.Proofs.Ytcjgicfmfjomgaa
open Go.RowKit Go.PlainAid Go.MapKept
set_option linter.unusedVariables false
set_option linter.unusedSimpArgs false
section
variable {S : Ln} {win : Nat → Nat} {n t : Nat}
/-- The numbers of a line are small. -/
theorem LInv.nums (h : LInv S win n t) {i : Nat} (hi : i < 2) : (1 ≤ (S.e i).x.next ∧ (S.e i).x.next ≤ (t : Int) + 1) ∧ (0 ≤ (S.e i).x.acked ∧ (S.e i).x.acked ≤ (t : Int)) ∧ (S.e i).x.under.length ≤ 16 ∧ (S.e i).x.box.length ≤ 16 ∧ (∀ d ∈ (S.e i).x.all, d.s.length ≤ 4000) ∧ (S.e i).x.win ≤ 16 ∧ (S.e i).x.box.length + (S.e i).x.under.length ≤ (S.e i).x.win ∧ (S.e i).x.early.length ≤ 16 := by
  have hj := two hi
  obtain ⟨a, ha⟩ := h.d i hi
  obtain ⟨b, hb⟩ := h.d (1 - i) hj.1
  rw [hj.2.2] at hb
  have he := h.ei i hi
  have hw := h.wn i hi
  have hbx := he.bx
  have hla := ha.len
  have hlb := hb.len
  rw [List.length_map] at hla hlb
  have t1 := he.ts
  have t2 := (h.ei (1 - i) hj.1).ts
  have g1 := ha.go
  have g2 := hb.go
  have hfe := hb.few
  rw [he.wi] at hfe ⊢
  refine ⟨by rw [hb.nx]; omega, by rw [ha.ack]; omega, by omega, by omega, fun d hd => ?_, by omega, hbx, by omega⟩
  unfold LV.all at hd
  have hin : ∀ e ∈ (S.e i).x.under ++ (S.e i).x.box, e.s.length ≤ 4000 := fun e he => by
    refine ha.ln _ ?_
    have h2 : e.s ∈ ((S.e i).inn.map Dv.s).drop a := by rw [ha.rest, ← List.map_append]; exact List.mem_map_of_mem he
    exact List.mem_of_mem_drop h2
  rcases List.mem_append.1 hd with hd | hd
  · refine hin d ?_
    rcases List.mem_append.1 hd with q | q
    · exact List.mem_append.2 (.inr q)
    · exact List.mem_append.2 (.inl q)
  · obtain ⟨p, hp, rfl⟩ := List.mem_map.1 hd
    exact hb.ln _ (List.mem_of_getElem? (hb.er p hp).2.2.2)
theorem LInv.addAll (h : LInv S win n t) {i : Nat} (hi : i < 2) (sv : Value) (l : List Sgm) (hg : ∀ g ∈ l, g.f = meOf i ∧ g.t = meOf (1 - i) ∧ SegOk ((S.e i).inn.map Dv.s) ((S.e i).inn.length - (S.e i).x.box.length) (S.e (1 - i)).out g.q g.a g.d.s) : LInv { S with sv := sv, sent := S.sent ++ l } win n t := by
  refine ⟨h.wn, h.hn, h.ei, h.d, fun g' hg' => ?_⟩
  rcases List.mem_append.1 hg' with q | q
  · exact h.sg g' q
  · exact ⟨i, hi, hg g' q⟩
theorem load5at {w : World} {b o : Nat} {f t q k v : Value} (h : w.cell? ⟨b, o, none⟩ = some f ∧ w.cell? ⟨b, o + 1, none⟩ = some t ∧ w.cell? ⟨b, o + 2, none⟩ = some q ∧ w.cell? ⟨b, o + 3, none⟩ = some k ∧ w.cell? ⟨b, o + 4, none⟩ = some v) : (Instr.loadAt 45 (.pointer (some ⟨b, o, none⟩))).run Try.prog w = .ok (.agg #[f, t, q, k, v]) w := by
  obtain ⟨h0, h1, h2, h3, h4⟩ := h
  simp [go_sem, h0, h1, h2, h3, h4]
end
section
variable {L xb : Nat} {S : Ln} {col : Nat → Nat} {w w' : World}
/-- An end has gone on; new blocks may be of others. -/
theorem LNM.endStepC (h : LNM L xb S col w) {i : Nat} (hi : i < 2) {uv' : Value} {x' : LV} (hm : LM L (S.e i).lb (S.e i).cb (S.e i).mb uv' x' w') (hs : LStp (S.e i).lb (S.e i).cb (S.e i).mb (S.e i).uv uv' (S.e i).x x' w w') (col' : Nat → Nat) (hlow : ∀ k, k < w.heap.size → col' k = col k) (hhi : ∀ k, w.heap.size ≤ k → lown (S.e i).lb (S.e i).cb (S.e i).mb uv' x' k → col' k = 1 + i) :
    LNM L xb (S.endX i uv' x') col' w' := by
  have h' := h.recol hlow
  have hn : ∀ k, k < w.heap.size → col' k ≠ 1 + i → w'.heap[k]? = w.heap[k]? := fun k hk h8 => hs.1.block k hk (fun a => h8 ((h'.ec i hi).ce k a))
  have hrow : ∀ {t z n : Nat} {u : Value} {xs : List Value}, w.ownsRow L t z u n xs → (∀ k, u.ownBlock = some k → col' k ≠ 1 + i) → w'.ownsRow L t z u n xs := fun hq hk => ownsRow_same hq (fun g e => hn g (ownsRow_lt hq e).2 (hk g e))
  refine ⟨?_, fun j hj => ?_, fun j hj => ?_, hrow h'.sr (fun k e => by rw [h'.cs k e]; omega), fun g hg => hrow (h'.sd g hg) (fun k e => by rw [h'.cg g hg k e]; omega), h.lo, h'.cx, h'.cs, h'.cg⟩
  · rw [lnbox_endX]
    exact (hn xb h.b.lt (by rw [h'.cx]; omega)).trans h.b
  · by_cases e : j = i
    · subst e
      rw [Ln.endX_same]
      exact ⟨hm, hrow (h'.em j hi).ir (fun k e => by rw [(h'.ec j hi).ci k e]; omega), fun d hd => hrow ((h'.em j hi).id d hd) (fun k e => by rw [(h'.ec j hi).cd d hd k e]; omega)⟩
    · rw [Ln.endX_ne S _ _ e]
      refine (h'.em j hj).keep hs.1 (fun k hk a => ?_)
      have h1 := (h'.ec i hi).ce k a
      rcases (h'.ec j hj).of hk with q | q | q <;> omega
  · by_cases e : j = i
    · subst e
      rw [Ln.endX_same]
      refine ⟨fun k hk => ?_, (h'.ec j hi).ci, (h'.ec j hi).cd⟩
      rcases hs.2 k hk with q | q
      · exact (h'.ec j hi).ce k q
      · exact hhi k q hk
    · rw [Ln.endX_ne S _ _ e]
      exact h'.ec j hj
end
/-- What Out told goes under way, one by one. -/
structure OM (L M xb : Nat) (S : Ln) (v : Value) (l : List Sgm) (wb : Nat) (WV : Array Value) (cw0 : Nat → Nat) (w0 : World) (m : Nat) (col : Nat → Nat) (sv : Value) (wr : World) : Prop where
  ln : LNM L xb { S with sv := sv, sent := S.sent ++ l.take m } col wr
  r : wr.ownsRow M 45 5 v l.length (flatG l)
  cr : ∀ k, v.ownBlock = some k → col k = 8
  dt : ∀ g ∈ l, wr.ownsRow L 5 1 g.d.v g.d.s.length (g.d.s.map B)
  cd : ∀ g ∈ l, ∀ k, g.d.v.ownBlock = some k → col k = 7
  b : Blk wr wb WV 51
  cw : col wb = 9
  bl : Below L w0 wr
  kp : ∀ k, k < w0.heap.size → 8 ≤ cw0 k → wr.heap[k]? = w0.heap[k]?
  cl : ∀ k, k < w0.heap.size → col k = cw0 k
section
variable {L M xb : Nat} {S : Ln} {v : Value} {l : List Sgm} {wb : Nat} {WV : Array Value} {cw0 : Nat → Nat} {w0 : World} {m : Nat} {col : Nat → Nat} {sv : Value} {wr wr' : World}
theorem OM.more (h : OM L M xb S v l wb WV cw0 w0 m col sv wr) (hb : Below wr.heap.size wr wr') : OM L M xb S v l wb WV cw0 w0 m col sv wr' :=
  ⟨h.ln.more hb, ownsRow_same h.r (fun g e => hb.block g (ownsRow_lt h.r e).2), h.cr, fun d hd => ownsRow_same (h.dt d hd) (fun g e => hb.block g (ownsRow_lt (h.dt d hd) e).2), h.cd, Blk.below h.b hb h.b.lt, h.cw, h.bl.trans (hb.mono h.ln.hL), fun k hk h8 => (hb.block k (Nat.lt_of_lt_of_le hk h.bl.size)).trans (h.kp k hk h8), h.cl⟩
theorem OM.step (h : OM L M xb S v l wb WV cw0 w0 m col sv wr) {g : Sgm} (hg : l[m]? = some g) (hs : S.sent.length + m ≤ 1000) :
    ∃ ao6 c6 w6, (∀ ty, (Builtin.append_ #[33, 33] ty #[sv, .slice (some ⟨wr.heap.size, 0, none⟩) 1 1]).run Try.prog (wr.alloc (.cells #[.int .i64 g.f, .int .i64 g.t, .int .i64 g.q, .int .i64 g.a, g.d.v] 45)) = .ok (.slice ao6 (S.sent.length + m + 1) c6) w6) ∧ (∀ k, k < wr.heap.size → col k ≠ 6 → w6.heap[k]? = wr.heap[k]?) ∧ w6.cell? ⟨xb, 6, none⟩ = some sv ∧ w6.frozen? ⟨xb, 6, none⟩ = false ∧ ∃ col', OM L M xb S v l wb WV cw0 w0 (m + 1) col' (.slice ao6 (S.sent.length + m + 1) c6) (w6.setCell ⟨xb, 6, none⟩ (.slice ao6 (S.sent.length + m + 1) c6)) := by
  have hml : m < l.length := (List.getElem?_eq_some_iff.1 hg).1
  have hgm : g ∈ l := List.mem_of_getElem? hg
  obtain ⟨go, gc, hgv, _⟩ := own_slice (h.dt g hgm)
  have hlen : (S.sent ++ l.take m).length = S.sent.length + m := by simp; omega
  have hsr := h.ln.sr
  replace hsr : wr.ownsRow L 45 5 sv (S.sent.length + m) (flatG (S.sent ++ l.take m)) := by
    rw [← hlen]
    exact hsr
  obtain ⟨v6, w6, hr6, ho6, hg6, _⟩ := app_any (w := wr.alloc (.cells #[.int .i64 g.f, .int .i64 g.t, .int .i64 g.q, .int .i64 g.a, g.d.v] 45)) 33 45 (.agg #[.int .i64 0, .int .i64 0, .int .i64 0, .int .i64 0, .slice none 0 0]) 5 56 Try.underlying33 info45 rfl (by decide) (by decide) (hsr.alloc _) ⟨wr.heap.size, 0, none⟩ 1 1 g.row rfl (fun j uu hu => by
    have hB : Blk (wr.alloc (.cells #[.int .i64 g.f, .int .i64 g.t, .int .i64 g.q, .int .i64 g.a, g.d.v] 45)) wr.heap.size #[.int .i64 g.f, .int .i64 g.t, .int .i64 g.q, .int .i64 g.a, g.d.v] 45 := heap_alloc_new wr _
    rw [addr_add, Nat.zero_add, hB.cell j]
    simpa [Sgm.row] using hu) (oneG g (by rw [hgv]; rfl)) (by omega) (by rw [World.size_alloc]; have := h.ln.hL; omega) 33
  obtain ⟨ao6, c6, hv6, _⟩ := own_slice ho6
  subst hv6
  have hg6' := hg6.ofAlloc
  have hc6 := hg6'.chg
  have hrow : w6.ownsRow L 45 5 (.slice ao6 (S.sent.length + m + 1) c6) (S.sent ++ l.take (m + 1)).length (flatG (S.sent ++ l.take (m + 1))) := by
    have e1 : S.sent ++ l.take (m + 1) = (S.sent ++ l.take m) ++ [g] := by rw [List.take_add_one, hg, List.append_assoc]; rfl
    rw [e1, flatG_app, List.length_append, hlen]
    have e2 : flatG [g] = g.row := by simp [flatG]
    rw [e2]
    exact ho6
  have hmem : ∀ e ∈ S.sent ++ l.take (m + 1), e ∈ S.sent ++ l.take m ∨ e = g := fun e he => by
    rw [List.take_add_one, hg] at he
    simp only [Option.toList_some, List.mem_append, List.mem_singleton] at he ⊢
    rcases he with q | q | q
    · exact .inl (.inl q)
    · exact .inl (.inr q)
    · exact .inr q
  obtain ⟨col', hL', hlow, hB6, hct⟩ := h.ln.setSent (v6 := .slice ao6 (S.sent.length + m + 1) c6) (l := S.sent ++ l.take (m + 1)) hc6 hrow hg6'.at' (fun e he => by
    rcases hmem e he with q | q
    · exact h.ln.sd e q
    · rw [q]; exact h.dt g hgm) (fun e he => by
    rcases hmem e he with q | q
    · exact h.ln.cg e q
    · rw [q]; exact h.cd g hgm)
  have hsame : ∀ k, k < wr.heap.size → col k ≠ 0 → col k ≠ 6 → (w6.setCell ⟨xb, 6, none⟩ (.slice ao6 (S.sent.length + m + 1) c6)).heap[k]? = wr.heap[k]? := fun k hk h0 h6 => hct.block k hk (fun a => by
    rcases a with a | a
    · exact h0 (by rw [a]; exact h.ln.cx)
    · exact h6 (h.ln.cs k a))
  refine ⟨ao6, c6, w6, fun ty => hr6, fun k hk h6 => hc6.block k hk (fun a => h6 (h.ln.cs k a)), hB6.cell 6, hB6.frozen 6, col', ⟨hL', ?_, fun k e => ?_, fun e he => ?_, fun e he k hk => ?_, ?_, ?_, ?_, fun k hk h8 => ?_, fun k hk => ?_⟩⟩
  · exact ownsRow_same h.r (fun k e => hsame k (ownsRow_lt h.r e).2 (by rw [h.cr k e]; omega) (by rw [h.cr k e]; omega))
  · exact (hlow k (ownsRow_lt h.r e).2).trans (h.cr k e)
  · exact ownsRow_same (h.dt e he) (fun k q => hsame k (ownsRow_lt (h.dt e he) q).2 (by rw [h.cd e he k q]; omega) (by rw [h.cd e he k q]; omega))
  · exact (hlow k (ownsRow_lt (h.dt e he) hk).2).trans (h.cd e he k hk)
  · exact (hsame wb h.b.lt (by rw [h.cw]; omega) (by rw [h.cw]; omega)).trans h.b
  · exact (hlow wb h.b.lt).trans h.cw
  · refine h.bl.trans (hct.below h.ln.hL (fun k hk => ?_))
    rcases hk with q | q
    · rw [q]; exact h.ln.lo
    · exact (ownsRow_lt h.ln.sr q).1
  · have h1 := h.cl k hk
    exact (hsame k (Nat.lt_of_lt_of_le hk h.bl.size) (by omega) (by omega)).trans (h.kp k hk h8)
  · exact (hlow k (Nat.lt_of_lt_of_le hk h.bl.size)).trans (h.cl k hk)
end
theorem kp_of {col : Nat → Nat} {w X w' : World} {A : Nat → Prop} (hb : Below w.heap.size w X) (hc : Chg A X w') (hA : ∀ k, k < w.heap.size → A k → col k < 8) : ∀ k, k < w.heap.size → 8 ≤ col k → w'.heap[k]? = w.heap[k]? := fun k hk h8 => (hc.block k (Nat.lt_of_lt_of_le hk hb.size) (fun a => by have := hA k hk a; omega)).trans (hb.block k hk)
end Go.Proofs.Ytcjgicfmfjomgaa
