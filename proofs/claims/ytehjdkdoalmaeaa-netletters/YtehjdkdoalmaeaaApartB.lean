import Derived.Test.YtehjdkdoalmaeaaApart0
namespace Go.Proofs.Ytehjdkdoalmaeaa
open Go.RowKit Go.PlainAid
set_option linter.unusedVariables false
set_option linter.unusedSimpArgs false
/-- The answers have grown, as far as es goes. -/
structure FSt (L pb : Nat) (vf : Value) (ds : List Value) (bf : Nat → List UInt8) (H0 : Nat) (far : Value) (es : List Value) (W : World) : Prop where
  ast : ASt L pb vf ds bf W
  farT : Tail W H0 29 far es.length es
  esR : ∀ (m : Nat) (e : Value), es[m]? = some e → W.ownsRow L 5 1 e ((bf m).length + 100) ((bf m ++ tls m 100).map B)
  loc : ∀ (m : Nat) (e d : Value) (j : Nat), es[m]? = some e → ds[m]? = some d → e.ownBlock = some j → d.ownBlock = some j ∨ H0 ≤ j
  low : ∀ (m : Nat) (d : Value) (j : Nat), ds[m]? = some d → d.ownBlock = some j → j < H0
  vlow : ∀ j, vf.ownBlock = some j → j < H0
  hi : H0 ≤ W.heap.size
/-- One of them is growing. -/
structure GIn (L : Nat) (d : Value) (bs : List UInt8) (k : Nat) (Wm : World) (v : Value) (j : Nat) (wr : World) : Prop where
  row : wr.ownsRow L 5 1 v (bs.length + j) ((bs ++ tls k j).map B)
  old : wr.ownsRow L 5 1 d bs.length (bs.map B)
  loc : ∀ b, v.ownBlock = some b → d.ownBlock = some b ∨ Wm.heap.size ≤ b
  os : wr.os = Wm.os
  tape : wr.tape = Wm.tape
  output : wr.output = Wm.output
  size : Wm.heap.size ≤ wr.heap.size
  block : ∀ b, b < Wm.heap.size → d.ownBlock ≠ some b → wr.heap[b]? = Wm.heap[b]?
theorem GIn.start {L k : Nat} {d : Value} {bs : List UInt8} {W : World} (h : W.ownsRow L 5 1 d bs.length (bs.map B)) : GIn L d bs k W d 0 W := ⟨by simpa [tls] using h, h, fun b hb => Or.inl hb, rfl, rfl, rfl, Nat.le_refl _, fun _ _ _ => rfl⟩
theorem GIn.step {L k j : Nat} {d v v' : Value} {bs : List UInt8} {Wm wr W2 : World} {c : Array Value} (h : GIn L d bs k Wm v j wr) (hr : W2.ownsRow L 5 1 v' (bs.length + j + 1) (((bs ++ tls k j) ++ [tl k j]).map B)) (hG : Grew (wr.alloc (.cells c 5)) W2 v v')
    (hkeep : ∀ (d : Value) (n base' : Nat) (ys : List Value), n ≤ bs.length + j → d.ownBlock = v.ownBlock → (wr.alloc (.cells c 5)).ownsRow base' 5 1 d n ys → W2.ownsRow base' 5 1 d n ys) : GIn L d bs k Wm v' (j + 1) W2 := by
  have hsz := hG.g.size
  rw [World.size_alloc] at hsz
  have hg : ∀ b, b < wr.heap.size → v.ownBlock ≠ some b → W2.heap[b]? = wr.heap[b]? := fun b hb hne => (hG.g.block b (by rw [World.size_alloc]; omega) (fun e => hne e.symm)).trans (Below.heap_alloc _ _ _ hb)
  have hs := h.size
  refine ⟨by rw [tls_succ, ← List.append_assoc, ← Nat.add_assoc]; exact hr, ?_, fun b hb => ?_, hG.g.os.trans h.os, hG.g.tape.trans h.tape, hG.g.output.trans h.output, by omega, fun b hb hn => ?_⟩
  · by_cases e : d.ownBlock = v.ownBlock
    · exact hkeep d bs.length L _ (by omega) e (h.old.alloc _)
    · exact ownsRow_same h.old fun b hb => hg b (h.old.lt b hb).2 (fun q => e (by rw [hb, q]))
  · rcases hG.at' b hb with q | q
    · exact h.loc b q
    · rw [World.size_alloc] at q
      exact Or.inr (by omega)
  · refine (hg b (by omega) fun q => ?_).trans (h.block b hb hn)
    rcases h.loc b q with r | r
    · exact hn r
    · omega
section
variable {L pb H0 k : Nat} {vf far far' d v : Value} {ds es : List Value} {bf : Nat → List UInt8} {w Wm wr Wn : World}
theorem FSt.step (h : FSt L pb vf ds bf H0 far es Wm) (hk : es.length = k) (hd : ds[k]? = some d) (hg : GIn L d (bf k) k Wm v 100 wr) (hfar : Tail Wn H0 29 far' (es.length + 1) (es ++ [v])) (hgr : (wr.alloc (.cells #[v] 29)).grownBy Wn far.ownBlock) : FSt L pb vf ds bf H0 far' (es ++ [v]) Wn := by
  have hsz := hgr.size
  rw [World.size_alloc] at hsz
  have hs := hg.size
  have hhi := h.hi
  have hdl := h.low k d
  -- at the growing's end
  have hA1 : ASt L pb vf ds bf wr := h.ast.turn hd (bf k) hg.old hg.block (fun m => by by_cases e : m = k <;> simp [e])
  have hstep : ∀ b, b < wr.heap.size → far.ownBlock ≠ some b → Wn.heap[b]? = wr.heap[b]? := fun b hb hne => (hgr.block b (by rw [World.size_alloc]; omega) (fun e => hne e.symm)).trans (Below.heap_alloc _ _ _ hb)
  have hfarm : ∀ b, far.ownBlock = some b → H0 ≤ b := fun b hb => (tail_lt h.farT b hb).1
  have hfarlt : ∀ b, far.ownBlock = some b → b < Wm.heap.size := fun b hb => (tail_lt h.farT b hb).2
  have hfarW : ∀ b, far.ownBlock = some b → ∃ cur, wr.heap[b]? = some (.cells cur 29 (0, 0)) := fun b hb => by
    obtain ⟨_, cur, hc⟩ := tail_blk h.farT hb
    exact ⟨cur, (hg.block b (hfarlt b hb) (fun e => by have := hdl b hd e; have := hfarm b hb; omega)).trans hc⟩
  have hty : ∀ b (cur : Array Value) T, wr.heap[b]? = some (.cells cur T (0, 0)) → T ≠ 29 → far.ownBlock ≠ some b := fun b cur T hc hT e => by
    obtain ⟨c2, h2⟩ := hfarW b e
    rw [hc] at h2
    cases h2
    exact hT rfl
  have hrow : ∀ (u : Value) (n : Nat) (xs : List Value), wr.ownsRow L 5 1 u n xs → Wn.ownsRow L 5 1 u n xs := fun u n xs hu => ownsRow_same hu fun b hb => by
    obtain ⟨cur, hc⟩ := ownsRow_type hu hb
    exact hstep b (hu.lt b hb).2 (hty b cur 5 hc (by decide))
  refine ⟨?_, by simpa using hfar, fun m e he => ?_, fun m e d' j he hd' hj => ?_, h.low, h.vlow, by omega⟩
  · obtain ⟨C, hC, h6⟩ := hA1.box
    refine ⟨⟨C, (hstep pb (Array.getElem?_eq_some_iff.1 hC).1 (hty pb C 65 hC (by decide))).trans hC, h6⟩, tail_same hA1.left fun b hb => hstep b (tail_lt hA1.left b hb).2 (fun e => by have := h.vlow b hb; have := hfarm b e; omega), fun m d' hd' => hrow _ _ _ (hA1.rows m d' hd'), hA1.nd⟩
  · by_cases hm : m < es.length
    · rw [List.getElem?_append_left hm] at he
      refine hrow _ _ _ (ownsRow_same (h.esR m e he) fun b hb => hg.block b ((h.esR m e he).lt b hb).2 fun q => ?_)
      obtain ⟨dm, hdm⟩ : ∃ dm, ds[m]? = some dm := ⟨ds[m]'(by have := (List.getElem?_eq_some_iff.1 hd).1; omega), List.getElem?_eq_getElem _⟩
      rcases h.loc m e dm b he hdm hb with r | r
      · have := h.ast.nd m k dm d b hdm hd r q
        omega
      · have := hdl b hd q
        omega
    · rw [List.getElem?_append_right (by omega)] at he
      have h0 : m - es.length = 0 := by
        have := (List.getElem?_eq_some_iff.1 he).1
        simp at this
        omega
      rw [h0] at he
      simp at he
      subst he
      obtain rfl : m = k := by omega
      exact hrow _ _ _ hg.row
  · by_cases hm : m < es.length
    · rw [List.getElem?_append_left hm] at he
      exact h.loc m e d' j he hd' hj
    · rw [List.getElem?_append_right (by omega)] at he
      have h0 : m - es.length = 0 := by
        have := (List.getElem?_eq_some_iff.1 he).1
        simp at this
        omega
      rw [h0] at he
      simp at he
      subst he
      obtain rfl : m = k := by omega
      rw [hd] at hd'
      cases hd'
      exact (hg.loc j hj).imp id (fun q => by omega)
theorem Frm.grow (hF : Frm ds w Wm) (hw : w.heap.size ≤ H0) (h : FSt L pb vf ds bf H0 far es Wm) (hd : ds[k]? = some d) {bs : List UInt8} (hg : GIn L d bs k Wm v 100 wr) (hgr : (wr.alloc (.cells #[v] 29)).grownBy Wn far.ownBlock) : Frm ds w Wn := by
  have hsz := hgr.size
  rw [World.size_alloc] at hsz
  have hs := hg.size
  have hf := hF.size
  refine ⟨hgr.os.trans (hg.os.trans hF.os), hgr.tape.trans (hg.tape.trans hF.tape), hgr.output.trans (hg.output.trans hF.output), by omega, fun b hb hn => ?_⟩
  refine ((hgr.block b (by rw [World.size_alloc]; omega) (fun e => ?_)).trans (Below.heap_alloc _ _ _ (by omega))).trans ((hg.block b (by omega) (hn d (List.mem_of_getElem? hd))).trans (hF.block b hb hn))
  have := (tail_lt h.farT b e.symm).1
  omega
end
section
variable {ops : Array Oper} {C : World → Prop} {eff : Nat → Bool} {Q : Act → World → Prop} {a : Act} {w w1 : World} {rest : List Oper} {o : Oper} {f : Nat → Value} {N d k z : Nat}
theorem lnp (hF : Fr N a f) (he : eff k = false) (hC : C w) (hd : o.dst = some d) (hN : d < N) (hw : Region.wanted o (yielded ops a.tmps) = false)
    (h : Fr N (a.put (some d) undef) (upd f d undef) → wpLex Try.prog ops C eff z Q rest (k + 1) (a.put (some d) undef) w) : wpLex Try.prog ops C eff z Q (o :: rest) k a w := by
  refine ⟨hC, ?_⟩
  rw [if_neg (by rw [he]; simp)]
  exact ⟨undef, Or.inr ⟨hw, rfl⟩, by rw [hd]; exact h (hF.put d undef hN)⟩
theorem want_yes {i : Nat} {b : Bool} (hF : Fr N a f) (hg : o.guard = some (i, b)) {e : Nat} (ho : (ops[i]?).bind (·.dst) = some e) (he : e < N) (hb : f e = .bool b) : Region.wanted o (yielded ops a.tmps) = true := by
  rw [wanted_some hg, hF.yields ho he hb]
  simp
theorem want_no {i : Nat} {b c : Bool} (hF : Fr N a f) (hg : o.guard = some (i, b)) {e : Nat} (ho : (ops[i]?).bind (·.dst) = some e) (he : e < N) (hb : f e = .bool c) (hne : c ≠ b) : Region.wanted o (yielded ops a.tmps) = false := by
  rw [wanted_some hg, hF.yields ho he hb]
  simp [hne]
theorem want_not {i : Nat} {b : Bool} (hF : Fr N a f) (hg : o.guard = some (i, b)) {e : Nat} (ho : (ops[i]?).bind (·.dst) = some e) (he : e < N) (hb : f e = undef) : Region.wanted o (yielded ops a.tmps) = false := by
  rw [wanted_some hg, hF.yieldsNot ho he hb]
  rfl
end
def FRel (L pb : Nat) (vf : Value) (ds : List Value) (bf : Nat → List UInt8) (H0 : Nat) (w : World) (far : Value) (k : Nat) (W : World) : Prop := ∃ es, es.length = k ∧ FSt L pb vf ds bf H0 far es W ∧ Frm ds w W
theorem wpList_far {w0 : World} {ops : Array Oper} {rest : List Oper} {o : Oper} {a : Act} {Q : Exit → Act → World → Prop} (hgd : o.guard = none) (s x : Operand)
    (ho : o.op = .call { callee := .builtin .append, args := #[s, x], argTypes := #[61, 61] })
    (H0 n : Nat) (v : Value) (es : List Value) (hs : a.eval s = v) (hT : Tail w0 H0 29 v n es) (e : Value) (he : e.oneCell' = true) (hx : a.eval x = .slice (some ⟨w0.heap.size, 0, none⟩) 1 1) (hn : n ≤ 100000) (hb : H0 ≤ w0.heap.size)
    (h : ∀ v' w', Tail w' H0 29 v' (n + 1) (es ++ [e]) → (w0.alloc (.cells #[e] 29)).grownBy w' v.ownBlock → wpList Try.prog ops Q rest (a.put o.dst v') w') : wpList Try.prog ops Q (o :: rest) a (w0.alloc (.cells #[e] 29)) := by
  obtain ⟨i, hi, hz0, hz1, hz2⟩ := info_parts Try.info29
  refine wpList_append_tail _ hgd s x 61 ho H0 29 i _ 24 Try.underlying61 hi hz0 hz1 hz2 rfl v n es hs (tail_alloc hT _) ⟨w0.heap.size, 0, none⟩ 1 1 [e] hx rfl (fun j y hj => ?_) (by simpa using he) (by omega) (by unfold maxLen; omega) (by omega) (by simp; omega) _ rfl ?_
  · cases j with
    | zero =>
      simp only [List.getElem?_cons_zero, Option.some.injEq] at hj
      subst hj
      rw [addr_add, cell_of_row _ w0.heap.size _ #[e] 29 (0, 0) (heap_alloc_new w0 _)]
      rfl
    | succ j => simp at hj
  · intro g off cap w' h1 h2 _ _
    exact h _ w' h1 h2
end Go.Proofs.Ytehjdkdoalmaeaa
