import Derived.Test.YtgohjkamikpdcaaLkR
namespace Go.Proofs.Ytgohjkamikpdcaa
open Go.RowKit Go.PlainAid
set_option linter.unusedVariables false
set_option linter.unusedSimpArgs false
def LO (es : List (LE Int)) (rs : List (LE (Int × Int))) (k : Nat) : Prop := (∃ e ∈ es, e.l.ownBlock = some k) ∨ ∃ e ∈ rs, e.l.ownBlock = some k
/-- The first i and j are written full. -/
structure LF (L kb : Nat) (vI vW vR vX : Value) (es : List (LE Int)) (rs : List (LE (Int × Int))) (w : World) (tb i j : Nat) (wr : World) : Prop where
  blk : Blk wr kb #[.bool true, vI, vW, .slice none 0 0, vR, vX, .slice none 0 0] 44
  xi : wr.ownsRow L 22 1 vI es.length (es.map LE.l)
  yi : wr.ownsRow L 34 1 vR rs.length (rs.map LE.l)
  fu : ∀ (a : Nat) (e : LE Int), es[a]? = some e → a < i → wr.ownsRow L 3 1 e.l e.zs.length (fullI e.zs.length a)
  re : ∀ (a : Nat) (e : LE Int), es[a]? = some e → i ≤ a → wr.ownsRow L 3 1 e.l e.zs.length (e.zs.map I)
  gu : ∀ (a : Nat) (e : LE (Int × Int)), rs[a]? = some e → a < j → wr.ownsRow L 38 2 e.l e.zs.length (fullR e.zs.length a)
  ge : ∀ (a : Nat) (e : LE (Int × Int)), rs[a]? = some e → j ≤ a → wr.ownsRow L 38 2 e.l e.zs.length (flatR e.zs)
  tk : KE L tb (.slice none 0 0) (.slice none 0 0) (.slice none 0 0) (.slice none 0 0) [] [] [] [] wr
  chg : Chg (LO es rs) w wr
  lt : ∀ k, LO es rs k → k < w.heap.size
  tb : w.heap.size ≤ tb
/-- The first i and j are held. -/
structure LH (L kb : Nat) (vI vW vR vX : Value) (es : List (LE Int)) (rs : List (LE (Int × Int))) (w : World) (tb i j : Nat) (v1 v2 v3 v4 : Value) (es' rs' : List Ent) (wr : World) : Prop where
  blk : Blk wr kb #[.bool true, vI, vW, .slice none 0 0, vR, vX, .slice none 0 0] 44
  xi : wr.ownsRow L 22 1 vI es.length (es.map LE.l)
  yi : wr.ownsRow L 34 1 vR rs.length (rs.map LE.l)
  fu : ∀ (a : Nat) (e : LE Int), es[a]? = some e → i ≤ a → wr.ownsRow L 3 1 e.l e.zs.length (fullI e.zs.length a)
  gu : ∀ (a : Nat) (e : LE (Int × Int)), rs[a]? = some e → j ≤ a → wr.ownsRow L 38 2 e.l e.zs.length (fullR e.zs.length a)
  tk : KE L tb v1 v2 v3 v4 es' es' rs' rs' wr
  mk1 : Marks es'
  mk2 : Marks rs'
  cn1 : es'.length ≤ 18 * i
  cn2 : rs'.length ≤ 18 * j
  kb' : ∀ k, KB tb v1 v2 v3 v4 es' rs' k → w.heap.size ≤ k ∨ (∃ (a : Nat) (e : LE Int), es[a]? = some e ∧ a < i ∧ e.l.ownBlock = some k) ∨ ∃ (a : Nat) (e : LE (Int × Int)), rs[a]? = some e ∧ a < j ∧ e.l.ownBlock = some k
  chg : Chg (LO es rs) w wr
  lt : ∀ k, LO es rs k → k < w.heap.size
theorem dj_at {α : Type} {es : List (LE α)} (h : es.Pairwise fun e f => ∀ g, e.l.ownBlock = some g → f.l.ownBlock ≠ some g) {i j : Nat} {e f : LE α} (he : es[i]? = some e) (hf : es[j]? = some f) (hne : i ≠ j) (g : Nat) (h1 : e.l.ownBlock = some g) : f.l.ownBlock ≠ some g := by
  have hi := (List.getElem?_eq_some_iff.1 he)
  have hj := (List.getElem?_eq_some_iff.1 hf)
  obtain ⟨hi1, rfl⟩ := hi
  obtain ⟨hj1, rfl⟩ := hj
  rcases Nat.lt_or_gt_of_ne hne with hlt | hlt
  · exact List.pairwise_iff_getElem.1 h i j hi1 hj1 hlt g h1
  · exact fun h2 => List.pairwise_iff_getElem.1 h j i hj1 hi1 hlt g h2 h1
section
variable {L kb : Nat} {vI vW vR vX v1 v2 v3 v4 : Value} {es : List (LE Int)} {rs : List (LE (Int × Int))} {es' rs' : List Ent} {w : World} {tb i j : Nat} {wr w2 : World}
theorem LF.stepI (h : LF L kb vI vW vR vX es rs w tb i j wr) (hdj : es.Pairwise fun e f => ∀ g, e.l.ownBlock = some g → f.l.ownBlock ≠ some g) {e : LE Int} (he : es[i]? = some e) (hr : w2.ownsRow L 3 1 e.l e.zs.length (fullI e.zs.length i)) (hc : Chg (fun k => e.l.ownBlock = some k) wr w2) : LF L kb vI vW vR vX es rs w tb (i + 1) j w2 := by
  have hre := h.re i e he (Nat.le_refl _)
  have hem := List.mem_of_getElem? he
  refine ⟨hc.blk h.blk (fun e2 => kb_ne hre h.blk (by decide) kb e2 rfl), ownsRow_same h.xi (fun g e2 => hc.block g (ownsRow_lt h.xi e2).2 (fun e3 => (ty_ne h.xi hre (by decide)) g e2 e3)), ownsRow_same h.yi (fun g e2 => hc.block g (ownsRow_lt h.yi e2).2 (fun e3 => (ty_ne h.yi hre (by decide)) g e2 e3)), fun a f hf ha => ?fu, fun a f hf ha => ?re, fun a f hf ha => (by have hq := h.gu a f hf ha; exact ownsRow_same hq (fun g e2 => hc.block g (ownsRow_lt hq e2).2 (fun e3 => (ty_ne hq hre (by decide)) g e2 e3))), fun a f hf ha => (by have hq := h.ge a f hf ha; exact ownsRow_same hq (fun g e2 => hc.block g (ownsRow_lt hq e2).2 (fun e3 => (ty_ne hq hre (by decide)) g e2 e3))), h.tk.frame hc (fun k hk e2 => ?tk), h.chg.trans (hc.mono (B := LO es rs) (fun j _ e2 => .inl ⟨e, hem, e2⟩)) (fun _ _ e => e), h.lt, h.tb⟩
  case fu =>
    by_cases hij : a = i
    · subst hij
      rw [he] at hf
      cases hf
      exact hr
    · have hq := h.fu a f hf (by omega)
      exact ownsRow_same hq (fun g e2 => hc.block g (ownsRow_lt hq e2).2 (fun e3 => dj_at hdj hf he hij g e2 e3))
  case re =>
    have hq := h.re a f hf (by omega)
    exact ownsRow_same hq (fun g e2 => hc.block g (ownsRow_lt hq e2).2 (fun e3 => dj_at hdj hf he (by omega) g e2 e3))
  case tk =>
    have h1 := h.lt k (.inl ⟨e, hem, e2⟩)
    have h2 := h.tb
    rcases hk with q | q | q | q | q | ⟨x, hx, _⟩ | ⟨x, hx, _⟩
    · omega
    · cases q
    · cases q
    · cases q
    · cases q
    · cases hx
    · cases hx
theorem LF.stepR (h : LF L kb vI vW vR vX es rs w tb i j wr) (hdj : rs.Pairwise fun e f => ∀ g, e.l.ownBlock = some g → f.l.ownBlock ≠ some g) {e : LE (Int × Int)} (he : rs[j]? = some e) (hr : w2.ownsRow L 38 2 e.l e.zs.length (fullR e.zs.length j)) (hc : Chg (fun k => e.l.ownBlock = some k) wr w2) : LF L kb vI vW vR vX es rs w tb i (j + 1) w2 := by
  have hre := h.ge j e he (Nat.le_refl _)
  have hem := List.mem_of_getElem? he
  refine ⟨hc.blk h.blk (fun e2 => kb_ne hre h.blk (by decide) kb e2 rfl), ownsRow_same h.xi (fun g e2 => hc.block g (ownsRow_lt h.xi e2).2 (fun e3 => (ty_ne h.xi hre (by decide)) g e2 e3)), ownsRow_same h.yi (fun g e2 => hc.block g (ownsRow_lt h.yi e2).2 (fun e3 => (ty_ne h.yi hre (by decide)) g e2 e3)), fun a f hf ha => (by have hq := h.fu a f hf ha; exact ownsRow_same hq (fun g e2 => hc.block g (ownsRow_lt hq e2).2 (fun e3 => (ty_ne hq hre (by decide)) g e2 e3))), fun a f hf ha => (by have hq := h.re a f hf ha; exact ownsRow_same hq (fun g e2 => hc.block g (ownsRow_lt hq e2).2 (fun e3 => (ty_ne hq hre (by decide)) g e2 e3))), fun a f hf ha => ?fu, fun a f hf ha => ?re, h.tk.frame hc (fun k hk e2 => ?tk), h.chg.trans (hc.mono (B := LO es rs) (fun j _ e2 => .inr ⟨e, hem, e2⟩)) (fun _ _ e => e), h.lt, h.tb⟩
  case fu =>
    by_cases hij : a = j
    · subst hij
      rw [he] at hf
      cases hf
      exact hr
    · have hq := h.gu a f hf (by omega)
      exact ownsRow_same hq (fun g e2 => hc.block g (ownsRow_lt hq e2).2 (fun e3 => dj_at hdj hf he hij g e2 e3))
  case re =>
    have hq := h.ge a f hf (by omega)
    exact ownsRow_same hq (fun g e2 => hc.block g (ownsRow_lt hq e2).2 (fun e3 => dj_at hdj hf he (by omega) g e2 e3))
  case tk =>
    have h1 := h.lt k (.inr ⟨e, hem, e2⟩)
    have h2 := h.tb
    rcases hk with q | q | q | q | q | ⟨x, hx, _⟩ | ⟨x, hx, _⟩
    · omega
    · cases q
    · cases q
    · cases q
    · cases q
    · cases hx
    · cases hx
theorem LF.held (h : LF L kb vI vW vR vX es rs w tb es.length rs.length wr) : LH L kb vI vW vR vX es rs w tb 0 0 (.slice none 0 0) (.slice none 0 0) (.slice none 0 0) (.slice none 0 0) [] [] wr :=
  ⟨h.blk, h.xi, h.yi, fun a e he _ => h.fu a e he (List.getElem?_eq_some_iff.1 he).1, fun a e he _ => h.gu a e he (List.getElem?_eq_some_iff.1 he).1, h.tk, (fun e he => by cases he), (fun e he => by cases he), Nat.le_refl _, Nat.le_refl _, (fun k hk => by
    rcases hk with q | q | q | q | q | ⟨x, hx, _⟩ | ⟨x, hx, _⟩
    · exact .inl (by rw [q]; exact h.tb)
    · cases q
    · cases q
    · cases q
    · cases q
    · cases hx
    · cases hx), h.chg, h.lt⟩
theorem LH.stepI {far u1 u2 : Value} {ls2 : List Ent} (h : LH L kb vI vW vR vX es rs w tb i j v1 v2 v3 v4 es' rs' wr) (hdj : es.Pairwise fun e f => ∀ g, e.l.ownBlock = some g → f.l.ownBlock ≠ some g) (hdo : rs.Pairwise fun e f => ∀ g, e.l.ownBlock = some g → f.l.ownBlock ≠ some g) (hxr : ∀ e ∈ es, ∀ f ∈ rs, ∀ g, e.l.ownBlock = some g → f.l.ownBlock ≠ some g) (hkb : kb < w.heap.size) (hvI : ∀ k, vI.ownBlock = some k → k < w.heap.size) (hvR : ∀ k, vR.ownBlock = some k → k < w.heap.size) (hlo : ∀ k, LO es rs k → k ≠ kb ∧ vI.ownBlock ≠ some k ∧ vR.ownBlock ≠ some k) {e : LE Int} (he : es[i]? = some e) (hH : HSI L tb v1 v2 e.l es' wr u1 u2 v3 v4 far ls2 ls2 rs' rs' (e.zs.length + 40) i w2) (hle : ls2.length ≤ es'.length + 18) (hij : i ≤ 1000000000000) : LH L kb vI vW vR vX es rs w tb (i + 1) j u1 u2 v3 v4 ls2 rs' w2 := by
  have hem := List.mem_of_getElem? he
  have hre := h.fu i e he (Nat.le_refl _)
  have hold : ∀ k, KB tb v1 v2 v3 v4 es' rs' k → w.heap.size ≤ k ∨ (∃ (a : Nat) (f : LE Int), es[a]? = some f ∧ a ≤ i ∧ f.l.ownBlock = some k) ∨ ∃ (a : Nat) (f : LE (Int × Int)), rs[a]? = some f ∧ a < j ∧ f.l.ownBlock = some k := fun k q => by
    rcases h.kb' k q with q | ⟨a, f, h1, h2, h3⟩ | ⟨a, f, h1, h2, h3⟩
    · exact .inl q
    · exact .inr (.inl ⟨a, f, h1, by omega, h3⟩)
    · exact .inr (.inr ⟨a, f, h1, by omega, h3⟩)
  have hKB : ∀ k, (k = tb ∨ v1.ownBlock = some k ∨ v2.ownBlock = some k ∨ e.l.ownBlock = some k) → w.heap.size ≤ k ∨ (∃ (a : Nat) (f : LE Int), es[a]? = some f ∧ a ≤ i ∧ f.l.ownBlock = some k) ∨ ∃ (a : Nat) (f : LE (Int × Int)), rs[a]? = some f ∧ a < j ∧ f.l.ownBlock = some k := fun k hk => by
    rcases hk with q | q | q | q
    · exact hold k (.inl q)
    · exact hold k (.inr (.inl q))
    · exact hold k (.inr (.inr (.inl q)))
    · exact .inr (.inl ⟨i, e, he, Nat.le_refl _, q⟩)
  have hLO : ∀ k, (k = tb ∨ v1.ownBlock = some k ∨ v2.ownBlock = some k ∨ e.l.ownBlock = some k) → w.heap.size ≤ k ∨ LO es rs k := fun k hk => by
    rcases hKB k hk with q | ⟨a, f, h1, _, h3⟩ | ⟨a, f, h1, _, h3⟩
    · exact .inl q
    · exact .inr (.inl ⟨f, List.mem_of_getElem? h1, h3⟩)
    · exact .inr (.inr ⟨f, List.mem_of_getElem? h1, h3⟩)
  have hc : Chg (LO es rs) w w2 := h.chg.trans hH.chg (fun k hk hb => by
    rcases hLO k hb with q | q
    · omega
    · exact q)
  have hrow : ∀ {t s n : Nat} {u : Value} {xs : List Value}, wr.ownsRow L t s u n xs → (∀ g, u.ownBlock = some g → g < w.heap.size ∧ ¬ (g = tb ∨ v1.ownBlock = some g ∨ v2.ownBlock = some g ∨ e.l.ownBlock = some g)) → w2.ownsRow L t s u n xs := fun hq hg => ownsRow_same hq (fun g e2 => hH.chg.block g (ownsRow_lt hq e2).2 (hg g e2).2)
  refine ⟨hH.chg.blk h.blk (fun hb => ?b), hrow h.xi (fun g e2 => ⟨hvI g e2, fun hb => ?x⟩), hrow h.yi (fun g e2 => ⟨hvR g e2, fun hb => ?y⟩), fun a f hf ha => ?fu, fun a f hf ha => ?gu, hH.ke, h.mk1.put (n := i) hij (hH.mrk), h.mk2, by have := h.cn1; omega, h.cn2, fun k hk => ?kb, hc, h.lt⟩
  case b =>
    rcases hLO kb hb with q | q
    · omega
    · exact (hlo kb q).1 rfl
  case x =>
    rcases hLO g hb with q | q
    · have := hvI g e2; omega
    · exact (hlo g q).2.1 e2
  case y =>
    rcases hLO g hb with q | q
    · have := hvR g e2; omega
    · exact (hlo g q).2.2 e2
  case fu =>
    have hq := h.fu a f hf (by omega)
    have hlt : ∀ g, f.l.ownBlock = some g → g < w.heap.size := fun g e2 => h.lt g (.inl ⟨f, List.mem_of_getElem? hf, e2⟩)
    refine hrow hq (fun g e2 => ⟨hlt g e2, fun hb => ?_⟩)
    rcases hKB g hb with q | ⟨a', f', h1, h2, h3⟩ | ⟨a', f', h1, h2, h3⟩
    · have := hlt g e2; omega
    · exact dj_at hdj h1 hf (by omega) g h3 e2
    · exact hxr f (List.mem_of_getElem? hf) f' (List.mem_of_getElem? h1) g e2 h3
  case gu =>
    have hq := h.gu a f hf (by omega)
    have hlt : ∀ g, f.l.ownBlock = some g → g < w.heap.size := fun g e2 => h.lt g (.inr ⟨f, List.mem_of_getElem? hf, e2⟩)
    refine hrow hq (fun g e2 => ⟨hlt g e2, fun hb => ?_⟩)
    rcases hKB g hb with q | ⟨a', f', h1, h2, h3⟩ | ⟨a', f', h1, h2, h3⟩
    · have := hlt g e2; omega
    · exact hxr f' (List.mem_of_getElem? h1) f (List.mem_of_getElem? hf) g h3 e2
    · exact dj_at hdo h1 hf (by omega) g h3 e2
  case kb =>
    have hsz := h.chg.size
    have up : (w.heap.size ≤ k ∨ (∃ (a : Nat) (f : LE Int), es[a]? = some f ∧ a ≤ i ∧ f.l.ownBlock = some k) ∨ ∃ (a : Nat) (f : LE (Int × Int)), rs[a]? = some f ∧ a < j ∧ f.l.ownBlock = some k) → w.heap.size ≤ k ∨ (∃ (a : Nat) (e : LE Int), es[a]? = some e ∧ a < i + 1 ∧ e.l.ownBlock = some k) ∨ ∃ (a : Nat) (e : LE (Int × Int)), rs[a]? = some e ∧ a < j ∧ e.l.ownBlock = some k := fun q => by
      rcases q with q | ⟨a, f, h1, h2, h3⟩ | ⟨a, f, h1, h2, h3⟩
      · exact .inl q
      · exact .inr (.inl ⟨a, f, h1, by omega, h3⟩)
      · exact .inr (.inr ⟨a, f, h1, by omega, h3⟩)
    rcases hk with q | q | q | q | q | ⟨x, hx, q⟩ | ⟨x, hx, q⟩
    · exact up (hKB k (.inl q))
    · rcases hH.ni k q with q | q
      · exact up (hKB k (.inr (.inl q)))
      · exact .inl (by omega)
    · rcases hH.nm k q with q | q
      · exact up (hKB k (.inr (.inr (.inl q))))
      · exact .inl (by omega)
    · exact up (hold k (.inr (.inr (.inr (.inl q)))))
    · exact up (hold k (.inr (.inr (.inr (.inr (.inl q))))))
    · rcases hH.ne x hx k q with ⟨x0, h0, q⟩ | q | q
      · exact up (hold k (.inr (.inr (.inr (.inr (.inr (.inl ⟨x0, h0, q⟩)))))))
      · exact up (hKB k (.inr (.inr (.inr q))))
      · exact .inl (by omega)
    · exact up (hold k (.inr (.inr (.inr (.inr (.inr (.inr (⟨x, hx, q⟩))))))))
theorem LH.stepR {far u1 u2 : Value} {ls2 : List Ent} (h : LH L kb vI vW vR vX es rs w tb i j v1 v2 v3 v4 es' rs' wr) (hdj : rs.Pairwise fun e f => ∀ g, e.l.ownBlock = some g → f.l.ownBlock ≠ some g) (hdo : es.Pairwise fun e f => ∀ g, e.l.ownBlock = some g → f.l.ownBlock ≠ some g) (hxr : ∀ e ∈ es, ∀ f ∈ rs, ∀ g, e.l.ownBlock = some g → f.l.ownBlock ≠ some g) (hkb : kb < w.heap.size) (hvI : ∀ k, vI.ownBlock = some k → k < w.heap.size) (hvR : ∀ k, vR.ownBlock = some k → k < w.heap.size) (hlo : ∀ k, LO es rs k → k ≠ kb ∧ vI.ownBlock ≠ some k ∧ vR.ownBlock ≠ some k) {e : LE (Int × Int)} (he : rs[j]? = some e) (hH : HSR L tb v3 v4 e.l rs' wr v1 v2 u1 u2 far es' es' ls2 ls2 (e.zs.length + 40) j w2) (hle : ls2.length ≤ rs'.length + 18) (hij : j ≤ 1000000000000) : LH L kb vI vW vR vX es rs w tb i (j + 1) v1 v2 u1 u2 es' ls2 w2 := by
  have hem := List.mem_of_getElem? he
  have hre := h.gu j e he (Nat.le_refl _)
  have hold : ∀ k, KB tb v1 v2 v3 v4 es' rs' k → w.heap.size ≤ k ∨ (∃ (a : Nat) (f : LE Int), es[a]? = some f ∧ a < i ∧ f.l.ownBlock = some k) ∨ ∃ (a : Nat) (f : LE (Int × Int)), rs[a]? = some f ∧ a ≤ j ∧ f.l.ownBlock = some k := fun k q => by
    rcases h.kb' k q with q | ⟨a, f, h1, h2, h3⟩ | ⟨a, f, h1, h2, h3⟩
    · exact .inl q
    · exact .inr (.inl ⟨a, f, h1, by omega, h3⟩)
    · exact .inr (.inr ⟨a, f, h1, by omega, h3⟩)
  have hKB : ∀ k, (k = tb ∨ v3.ownBlock = some k ∨ v4.ownBlock = some k ∨ e.l.ownBlock = some k) → w.heap.size ≤ k ∨ (∃ (a : Nat) (f : LE Int), es[a]? = some f ∧ a < i ∧ f.l.ownBlock = some k) ∨ ∃ (a : Nat) (f : LE (Int × Int)), rs[a]? = some f ∧ a ≤ j ∧ f.l.ownBlock = some k := fun k hk => by
    rcases hk with q | q | q | q
    · exact hold k (.inl q)
    · exact hold k (.inr (.inr (.inr (.inl q))))
    · exact hold k (.inr (.inr (.inr (.inr (.inl q)))))
    · exact .inr (.inr ⟨j, e, he, Nat.le_refl _, q⟩)
  have hLO : ∀ k, (k = tb ∨ v3.ownBlock = some k ∨ v4.ownBlock = some k ∨ e.l.ownBlock = some k) → w.heap.size ≤ k ∨ LO es rs k := fun k hk => by
    rcases hKB k hk with q | ⟨a, f, h1, _, h3⟩ | ⟨a, f, h1, _, h3⟩
    · exact .inl q
    · exact .inr (.inl ⟨f, List.mem_of_getElem? h1, h3⟩)
    · exact .inr (.inr ⟨f, List.mem_of_getElem? h1, h3⟩)
  have hc : Chg (LO es rs) w w2 := h.chg.trans hH.chg (fun k hk hb => by
    rcases hLO k hb with q | q
    · omega
    · exact q)
  have hrow : ∀ {t s n : Nat} {u : Value} {xs : List Value}, wr.ownsRow L t s u n xs → (∀ g, u.ownBlock = some g → g < w.heap.size ∧ ¬ (g = tb ∨ v3.ownBlock = some g ∨ v4.ownBlock = some g ∨ e.l.ownBlock = some g)) → w2.ownsRow L t s u n xs := fun hq hg => ownsRow_same hq (fun g e2 => hH.chg.block g (ownsRow_lt hq e2).2 (hg g e2).2)
  refine ⟨hH.chg.blk h.blk (fun hb => ?b), hrow h.xi (fun g e2 => ⟨hvI g e2, fun hb => ?x⟩), hrow h.yi (fun g e2 => ⟨hvR g e2, fun hb => ?y⟩), fun a f hf ha => ?fu, fun a f hf ha => ?gu, hH.ke, h.mk1, h.mk2.put (n := j) hij (hH.mrk), h.cn1, by have := h.cn2; omega, fun k hk => ?kb, hc, h.lt⟩
  case b =>
    rcases hLO kb hb with q | q
    · omega
    · exact (hlo kb q).1 rfl
  case x =>
    rcases hLO g hb with q | q
    · have := hvI g e2; omega
    · exact (hlo g q).2.1 e2
  case y =>
    rcases hLO g hb with q | q
    · have := hvR g e2; omega
    · exact (hlo g q).2.2 e2
  case fu =>
    have hq := h.fu a f hf (by omega)
    have hlt : ∀ g, f.l.ownBlock = some g → g < w.heap.size := fun g e2 => h.lt g (.inl ⟨f, List.mem_of_getElem? hf, e2⟩)
    refine hrow hq (fun g e2 => ⟨hlt g e2, fun hb => ?_⟩)
    rcases hKB g hb with q | ⟨a', f', h1, h2, h3⟩ | ⟨a', f', h1, h2, h3⟩
    · have := hlt g e2; omega
    · exact dj_at hdo h1 hf (by omega) g h3 e2
    · exact hxr f (List.mem_of_getElem? hf) f' (List.mem_of_getElem? h1) g e2 h3
  case gu =>
    have hq := h.gu a f hf (by omega)
    have hlt : ∀ g, f.l.ownBlock = some g → g < w.heap.size := fun g e2 => h.lt g (.inr ⟨f, List.mem_of_getElem? hf, e2⟩)
    refine hrow hq (fun g e2 => ⟨hlt g e2, fun hb => ?_⟩)
    rcases hKB g hb with q | ⟨a', f', h1, h2, h3⟩ | ⟨a', f', h1, h2, h3⟩
    · have := hlt g e2; omega
    · exact hxr f' (List.mem_of_getElem? h1) f (List.mem_of_getElem? hf) g h3 e2
    · exact dj_at hdj h1 hf (by omega) g h3 e2
  case kb =>
    have hsz := h.chg.size
    have up : (w.heap.size ≤ k ∨ (∃ (a : Nat) (f : LE Int), es[a]? = some f ∧ a < i ∧ f.l.ownBlock = some k) ∨ ∃ (a : Nat) (f : LE (Int × Int)), rs[a]? = some f ∧ a ≤ j ∧ f.l.ownBlock = some k) → w.heap.size ≤ k ∨ (∃ (a : Nat) (e : LE Int), es[a]? = some e ∧ a < i ∧ e.l.ownBlock = some k) ∨ ∃ (a : Nat) (e : LE (Int × Int)), rs[a]? = some e ∧ a < j + 1 ∧ e.l.ownBlock = some k := fun q => by
      rcases q with q | ⟨a, f, h1, h2, h3⟩ | ⟨a, f, h1, h2, h3⟩
      · exact .inl q
      · exact .inr (.inl ⟨a, f, h1, by omega, h3⟩)
      · exact .inr (.inr ⟨a, f, h1, by omega, h3⟩)
    rcases hk with q | q | q | q | q | ⟨x, hx, q⟩ | ⟨x, hx, q⟩
    · exact up (hKB k (.inl q))
    · exact up (hold k (.inr (.inl q)))
    · exact up (hold k (.inr (.inr (.inl q))))
    · rcases hH.ni k q with q | q
      · exact up (hKB k (.inr (.inl q)))
      · exact .inl (by omega)
    · rcases hH.nm k q with q | q
      · exact up (hKB k (.inr (.inr (.inl q))))
      · exact .inl (by omega)
    · exact up (hold k (.inr (.inr (.inr (.inr (.inr (.inl ⟨x, hx, q⟩)))))))
    · rcases hH.ne x hx k q with ⟨x0, h0, q⟩ | q | q
      · exact up (hold k (.inr (.inr (.inr (.inr (.inr (.inr (⟨x0, h0, q⟩))))))))
      · exact up (hKB k (.inr (.inr (.inr q))))
      · exact .inl (by omega)
end
end Go.Proofs.Ytgohjkamikpdcaa
