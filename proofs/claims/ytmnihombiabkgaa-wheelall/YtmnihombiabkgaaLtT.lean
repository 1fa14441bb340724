import Derived.Test.YtmnihombiabkgaaLkP
namespace Go.Proofs.Ytmnihombiabkgaa
open Go.RowKit Go.PlainAid Go.MapKept
set_option linter.unusedVariables false
set_option linter.unusedSimpArgs false
def LO (es : List LE) (k : Nat) : Prop := ∃ e ∈ es, e.l.ownBlock = some k
/-- The first i are written full. -/
structure LF (L kb : Nat) (vI vW : Value) (es : List LE) (w : World) (tb i : Nat) (wr : World) : Prop where
  blk : Blk wr kb #[.bool true, vI, vW, .slice none 0 0] 64
  xi : wr.ownsRow L 33 1 vI es.length (es.map LE.l)
  fu : ∀ (j : Nat) (e : LE), es[j]? = some e → j < i → wr.ownsRow L 50 4 e.l e.zs.length (fullT e.zs.length j)
  re : ∀ (j : Nat) (e : LE), es[j]? = some e → i ≤ j → wr.ownsRow L 50 4 e.l e.zs.length (flatT e.zs)
  tk : KE L tb (.slice none 0 0) (.slice none 0 0) [] [] wr
  chg : Chg (LO es) w wr
  lt : ∀ k, LO es k → k < w.heap.size
  tb : w.heap.size ≤ tb
/-- The first i are held. -/
structure LH (L kb : Nat) (vI vW : Value) (es : List LE) (w : World) (tb i : Nat) (v1 v2 : Value) (es' : List Ent) (wr : World) : Prop where
  blk : Blk wr kb #[.bool true, vI, vW, .slice none 0 0] 64
  xi : wr.ownsRow L 33 1 vI es.length (es.map LE.l)
  fu : ∀ (j : Nat) (e : LE), es[j]? = some e → i ≤ j → wr.ownsRow L 50 4 e.l e.zs.length (fullT e.zs.length j)
  tk : KE L tb v1 v2 es' es' wr
  cn : es'.length ≤ 18 * i
  kb' : ∀ k, KB tb v1 v2 es' k → w.heap.size ≤ k ∨ ∃ (j : Nat) (e : LE), es[j]? = some e ∧ j < i ∧ e.l.ownBlock = some k
  chg : Chg (LO es) w wr
  lt : ∀ k, LO es k → k < w.heap.size
section
variable {L kb : Nat} {vI vW v1 v2 : Value} {es : List LE} {es' : List Ent} {w : World} {tb i : Nat} {wr w2 : World}
theorem dj_at (h : es.Pairwise fun e f => ∀ g, e.l.ownBlock = some g → f.l.ownBlock ≠ some g) {i j : Nat} {e f : LE} (he : es[i]? = some e) (hf : es[j]? = some f) (hne : i ≠ j) (g : Nat) (h1 : e.l.ownBlock = some g) : f.l.ownBlock ≠ some g := by
  have hi := (List.getElem?_eq_some_iff.1 he)
  have hj := (List.getElem?_eq_some_iff.1 hf)
  obtain ⟨hi1, rfl⟩ := hi
  obtain ⟨hj1, rfl⟩ := hj
  rcases Nat.lt_or_gt_of_ne hne with hlt | hlt
  · exact List.pairwise_iff_getElem.1 h i j hi1 hj1 hlt g h1
  · exact fun h2 => List.pairwise_iff_getElem.1 h j i hj1 hi1 hlt g h2 h1
theorem LF.step (h : LF L kb vI vW es w tb i wr) (hdj : es.Pairwise fun e f => ∀ g, e.l.ownBlock = some g → f.l.ownBlock ≠ some g) {e : LE} (he : es[i]? = some e) (hr : w2.ownsRow L 50 4 e.l e.zs.length (fullT e.zs.length i)) (hc : Chg (fun k => e.l.ownBlock = some k) wr w2) : LF L kb vI vW es w tb (i + 1) w2 := by
  have hre := h.re i e he (Nat.le_refl _)
  have hem := List.mem_of_getElem? he
  refine ⟨hc.blk h.blk (fun e2 => kb_ne hre h.blk (by decide) kb e2 rfl), ownsRow_same h.xi (fun g e2 => hc.block g (ownsRow_lt h.xi e2).2 (fun e3 => (ty_ne h.xi hre (by decide)) g e2 e3)), fun j f hf hj => ?_, fun j f hf hj => ?_, h.tk.frame hc (fun k hk e2 => ?_), h.chg.trans (hc.mono (B := LO es) (fun j _ e2 => ⟨e, hem, e2⟩)) (fun _ _ e => e), h.lt, h.tb⟩
  · by_cases hij : j = i
    · subst hij
      rw [he] at hf
      cases hf
      exact hr
    · have hq := h.fu j f hf (by omega)
      exact ownsRow_same hq (fun g e2 => hc.block g (ownsRow_lt hq e2).2 (fun e3 => dj_at hdj hf he hij g e2 e3))
  · have hq := h.re j f hf (by omega)
    exact ownsRow_same hq (fun g e2 => hc.block g (ownsRow_lt hq e2).2 (fun e3 => dj_at hdj hf he (by omega) g e2 e3))
  · have h1 := h.lt k ⟨e, hem, e2⟩
    have h2 := h.tb
    rcases hk with q | q | q | ⟨x, hx, _⟩
    · omega
    · cases q
    · cases q
    · cases hx
theorem LF.held (h : LF L kb vI vW es w tb es.length wr) : LH L kb vI vW es w tb 0 (.slice none 0 0) (.slice none 0 0) [] wr :=
  ⟨h.blk, h.xi, fun j e he _ => h.fu j e he (List.getElem?_eq_some_iff.1 he).1, h.tk, Nat.le_refl _, (fun k hk => by
    rcases hk with q | q | q | ⟨x, hx, _⟩
    · exact .inl (by rw [q]; exact h.tb)
    · cases q
    · cases q
    · cases hx), h.chg, h.lt⟩
theorem LH.step {far u1 u2 : Value} {es2 : List Ent} (h : LH L kb vI vW es w tb i v1 v2 es' wr) (hdj : es.Pairwise fun e f => ∀ g, e.l.ownBlock = some g → f.l.ownBlock ≠ some g) (hkb : kb < w.heap.size) (hvI : ∀ k, vI.ownBlock = some k → k < w.heap.size) (hlo : ∀ k, LO es k → k ≠ kb ∧ vI.ownBlock ≠ some k) {e : LE} (he : es[i]? = some e) (hH : HSI L tb v1 v2 e.l es' wr u1 u2 far es2 es2 (e.zs.length + 40) i w2) (hle : es2.length ≤ es'.length + 18) : LH L kb vI vW es w tb (i + 1) u1 u2 es2 w2 := by
  have hem := List.mem_of_getElem? he
  have hre := h.fu i e he (Nat.le_refl _)
  have hKB : ∀ k, (k = tb ∨ v1.ownBlock = some k ∨ v2.ownBlock = some k ∨ e.l.ownBlock = some k) → w.heap.size ≤ k ∨ ∃ (j : Nat) (f : LE), es[j]? = some f ∧ j ≤ i ∧ f.l.ownBlock = some k := fun k hk => by
    have hold : KB tb v1 v2 es' k → w.heap.size ≤ k ∨ ∃ (j : Nat) (f : LE), es[j]? = some f ∧ j ≤ i ∧ f.l.ownBlock = some k := fun q => by
      rcases h.kb' k q with q | ⟨j, f, h1, h2, h3⟩
      · exact .inl q
      · exact .inr ⟨j, f, h1, by omega, h3⟩
    rcases hk with q | q | q | q
    · exact hold (.inl q)
    · exact hold (.inr (.inl q))
    · exact hold (.inr (.inr (.inl q)))
    · exact .inr ⟨i, e, he, Nat.le_refl _, q⟩
  have hc : Chg (LO es) w w2 := h.chg.trans hH.chg (fun k hk hb => by
    rcases hKB k hb with q | ⟨j, f, h1, _, h3⟩
    · omega
    · exact ⟨f, List.mem_of_getElem? h1, h3⟩)
  refine ⟨hH.chg.blk h.blk (fun hb => ?_), ownsRow_same h.xi (fun g e2 => hH.chg.block g (ownsRow_lt h.xi e2).2 (fun hb => ?_)), fun j f hf hj => ?_, hH.ke, by have := h.cn; omega, fun k hk => ?_, hc, h.lt⟩
  · rcases hKB kb hb with q | ⟨j, f, h1, _, h3⟩
    · omega
    · exact (hlo kb ⟨f, List.mem_of_getElem? h1, h3⟩).1 rfl
  · rcases hKB g hb with q | ⟨j, f, h1, _, h3⟩
    · have := hvI g e2; omega
    · exact (hlo g ⟨f, List.mem_of_getElem? h1, h3⟩).2 e2
  · have hq := h.fu j f hf (by omega)
    refine ownsRow_same hq (fun g e2 => hH.chg.block g (ownsRow_lt hq e2).2 (fun hb => ?_))
    rcases hKB g hb with q | ⟨j', f', h1, h2, h3⟩
    · have := h.lt g ⟨f, List.mem_of_getElem? hf, e2⟩; omega
    · exact dj_at hdj h1 hf (by omega) g h3 e2
  · have hsz := h.chg.size
    rcases hk with q | q | q | ⟨x, hx, q⟩
    · rcases hKB k (.inl q) with q | ⟨j, f, h1, h2, h3⟩
      · exact .inl q
      · exact .inr ⟨j, f, h1, by omega, h3⟩
    · rcases hH.ni k q with q | q
      · rcases hKB k (.inr (.inl q)) with q | ⟨j, f, h1, h2, h3⟩
        · exact .inl q
        · exact .inr ⟨j, f, h1, by omega, h3⟩
      · exact .inl (by omega)
    · rcases hH.nm k q with q | q
      · rcases hKB k (.inr (.inr (.inl q))) with q | ⟨j, f, h1, h2, h3⟩
        · exact .inl q
        · exact .inr ⟨j, f, h1, by omega, h3⟩
      · exact .inl (by omega)
    · rcases hH.ne x hx k q with ⟨x0, h0, q⟩ | q | q
      · rcases h.kb' k (.inr (.inr (.inr ⟨x0, h0, q⟩))) with q | ⟨j, f, h1, h2, h3⟩
        · exact .inl q
        · exact .inr ⟨j, f, h1, by omega, h3⟩
      · exact .inr ⟨i, e, he, by omega, q⟩
      · exact .inl (by omega)
end
end Go.Proofs.Ytmnihombiabkgaa
