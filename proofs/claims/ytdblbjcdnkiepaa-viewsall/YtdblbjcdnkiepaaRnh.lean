import Derived.Test.YtdblbjcdnkiepaaApn
namespace Go.Proofs.Ytdblbjcdnkiepaa
open Go.RowKit Go.PlainAid Go.MapKept
set_option linter.unusedVariables false
set_option linter.unusedSimpArgs false
/-- An op that came in, at its place. -/
structure OpAt (w : World) (b o : Nat) (x : OpA) : Prop where
  c0 : w.cell? ⟨b, o, none⟩ = some (.int .i64 x.k)
  c1 : w.cell? ⟨b, o + 1, none⟩ = some (.int .i64 x.who)
  c2 : w.cell? ⟨b, o + 2, none⟩ = some (.int .i64 x.a)
  c3 : w.cell? ⟨b, o + 3, none⟩ = some (.int .i64 x.b)
  c4 : w.cell? ⟨b, o + 4, none⟩ = some (.int .i64 x.h)
  c5 : w.cell? ⟨b, o + 5, none⟩ = some (.string ⟨x.n.toArray⟩)
  c6 : w.cell? ⟨b, o + 6, none⟩ = some (.int .i64 x.d)
  c7 : w.cell? ⟨b, o + 7, none⟩ = some (.int .i64 x.u)
  c8 : w.cell? ⟨b, o + 8, none⟩ = some (.slice x.la x.K x.cap)
  f : FromV w x.la x.es
theorem OpAt.below {w w' : World} {b o : Nat} {x : OpA} (h : OpAt w b o x) (hb : Below w.heap.size w w') : OpAt w' b o x :=
  have k : ∀ j, w'.cell? ⟨b, j, none⟩ = w.cell? ⟨b, j, none⟩ := fun j => World.cell?_of_block (w := w) (hb.block b (World.block_lt_of_cell? w _ h.c0))
  ⟨(k _).trans h.c0, (k _).trans h.c1, (k _).trans h.c2, (k _).trans h.c3, (k _).trans h.c4, (k _).trans h.c5, (k _).trans h.c6, (k _).trans h.c7, (k _).trans h.c8, h.f.all hb⟩
structure PI where
  pb : Nat
  hb : Nat
  mb : Nat
  rb : Nat
  me : Int
structure PJ where
  v : Value
  L : List Ent
  A : List Ent
def nilS : Value := .slice none 0 0
def own2 (i : PI) (j : PJ) (k : Nat) : Prop := k = i.pb ∨ k = i.hb ∨ k = i.mb ∨ k = i.rb ∨ j.v.ownBlock = some k
structure In2 (L0 N M : Nat) (bk : Value) (i : PI) (j : PJ) (w : World) : Prop where
  pp : PP L0 i.pb i.hb i.mb i.rb M i.me N nilS nilS bk j.v j.L j.A w
  lo : L0 ≤ i.pb ∧ L0 ≤ i.hb ∧ L0 ≤ i.mb
section
variable {L0 N M : Nat} {bk : Value} {i : PI} {j : PJ} {w w' : World}
theorem In2.ge (h : In2 L0 N M bk i j w) {k : Nat} (hk : own2 i j k) : L0 ≤ k := by
  rcases hk with rfl | rfl | rfl | rfl | hk
  · exact h.lo.1
  · exact h.lo.2.1
  · exact h.lo.2.2
  · exact h.pp.rv.lo
  · exact (ownsRow_lt h.pp.rv.row hk).1
theorem In2.lt (h : In2 L0 N M bk i j w) {k : Nat} (hk : own2 i j k) : k < w.heap.size := by
  rcases hk with rfl | rfl | rfl | rfl | hk
  · exact h.pp.box.lt
  · exact h.pp.vw.blk.lt
  · exact h.pp.vw.map.lt
  · exact h.pp.rv.blk.lt
  · exact (ownsRow_lt h.pp.rv.row hk).2
theorem In2.keep (h : In2 L0 N M bk i j w) (hk : ∀ k, own2 i j k → w'.heap[k]? = w.heap[k]?) : In2 L0 N M bk i j w' :=
  ⟨⟨(hk _ (Or.inl rfl)).trans h.pp.box, ⟨(hk _ (Or.inr (Or.inl rfl))).trans h.pp.vw.blk, h.pp.vw.map.same (hk _ (Or.inr (Or.inr (Or.inl rfl))))⟩, h.pp.rv.keep (hk _ (Or.inr (Or.inr (Or.inr (Or.inl rfl))))) (fun g hg => hk g (Or.inr (Or.inr (Or.inr (Or.inr hg))))), h.pp.ag, h.pp.al⟩, h.lo⟩
theorem In2.more (h : In2 L0 N M bk i j w) (hb : Below w.heap.size w w') : In2 L0 N M bk i j w' := h.keep (fun k hk => hb.block k (h.lt hk))
theorem In2.mono (h : In2 L0 N M bk i j w) : In2 L0 N (M + 1) bk i j w := ⟨⟨h.pp.box, h.pp.vw, h.pp.rv, h.pp.ag.mono (Nat.le_succ _), by have := h.pp.al; omega⟩, h.lo⟩
theorem In2.chg {A : Nat → Prop} (h : In2 L0 N M bk i j w) (hc : Chg A w w') (hn : ∀ k, own2 i j k → ¬ A k) : In2 L0 N M bk i j w' := h.keep (fun k hk => hc.block k (h.lt hk) (hn k hk))
theorem In2.step (h : In2 L0 N M bk i j w) (hp : PPost L0 i.hb i.mb i.rb i.me N j.v (M + 1) w w') : ∃ j', In2 L0 N (M + 1) bk i j' w' ∧ Chg (own2 i j) w w' ∧ ∀ k, own2 i j' k → own2 i j k ∨ w.heap.size ≤ k := by
  obtain ⟨v', L', A', a, b, c, d, e, f⟩ := hp
  have hc : Chg (own2 i j) w w' := e.mono (fun k _ hk => by
    rcases hk with hk | hk | hk
    · exact Or.inr (Or.inr (Or.inl hk))
    · exact Or.inr (Or.inr (Or.inr (Or.inl hk)))
    · exact Or.inr (Or.inr (Or.inr (Or.inr hk))))
  refine ⟨⟨v', L', A'⟩, ⟨⟨e.blk h.pp.box (fun hh => ?_), a, b, c, d⟩, h.lo⟩, hc, fun k hk => ?_⟩
  · rcases hh with hh | hh | hh
    · exact h.pp.vw.map.ne_b h.pp.box hh
    · exact h.pp.box.ne_t h.pp.rv.blk (by decide) hh
    · exact h.pp.rv.own_ne h.pp.box (by decide) hh
  · rcases hk with hk | hk | hk | hk | hk
    · exact Or.inl (Or.inl hk)
    · exact Or.inl (Or.inr (Or.inl hk))
    · exact Or.inl (Or.inr (Or.inr (Or.inl hk)))
    · exact Or.inl (Or.inr (Or.inr (Or.inr (Or.inl hk))))
    · rcases f k hk with h1 | h1
      · exact Or.inl (Or.inr (Or.inr (Or.inr (Or.inr h1))))
      · exact Or.inr h1
theorem In2.book (h : In2 L0 N M bk i j w) {kb : Nat} {D : Array Value} (hB : Blk w kb D 90) : ¬ own2 i j kb := fun hk => by
  rcases hk with hk | hk | hk | hk | hk
  · exact hB.ne_t h.pp.box (by decide) hk
  · exact hB.ne_t h.pp.vw.blk (by decide) hk
  · exact h.pp.vw.map.ne_b hB hk
  · exact hB.ne_t h.pp.rv.blk (by decide) hk
  · exact h.pp.rv.own_ne hB (by decide) hk
theorem In2.oth (h : In2 L0 N M bk i j w) (hM : M ≤ 300) : Oth (.pointer (some ⟨i.pb, 0, none⟩)) w := Or.inr ⟨i.pb, L0, i.rb, M, i.me, N, j.v, j.L, j.A, rfl, ⟨_, _, _, _, h.pp.box⟩, h.pp.rv, h.pp.ag, by have := h.pp.al; omega⟩
theorem In2.setBook (h : In2 L0 N M bk i j w) (b' : Value) : In2 L0 N M b' i j (w.setCell ⟨i.pb, 4, none⟩ b') ∧ Chg (own2 i j) w (w.setCell ⟨i.pb, 4, none⟩ b') := by
  have hc := setCell_chg w i.pb 4 b'
  refine ⟨⟨⟨h.pp.box.set 4 b', h.pp.vw.keep hc (h.pp.vw.blk.ne_t h.pp.box (by decide)) (fun e => h.pp.vw.map.ne_b h.pp.box e.symm), h.pp.rv.keep (hc.block _ h.pp.rv.blk.lt (h.pp.rv.blk.ne_t h.pp.box (by decide))) (fun g hg => hc.block _ (ownsRow_lt h.pp.rv.row hg).2 (fun e => h.pp.rv.own_ne h.pp.box (by decide) (e ▸ hg))), h.pp.ag, h.pp.al⟩, h.lo⟩, hc.mono (fun k _ e => Or.inl e)⟩
theorem In2.fb (h : In2 L0 N M bk i j w) {la : Option Addr} {es : List Ent} {w0 : World} (hL : L0 = w0.heap.size) (hb : Below w0.heap.size w0 w) (hf : FromV w0 la es) : 0 < es.length → ∀ b off, la = some ⟨b, off, none⟩ → b < w.heap.size ∧ b ≠ i.mb ∧ b ≠ i.rb ∧ j.v.ownBlock ≠ some b := fun h0 b off e => by
  subst e
  have hlt := hf.lt h0
  refine ⟨Nat.lt_of_lt_of_le hlt hb.size, fun e => ?_, fun e => ?_, fun e => ?_⟩
  · have := h.lo.2.2; omega
  · have := h.pp.rv.lo; omega
  · have := (ownsRow_lt h.pp.rv.row e).1; omega
end
theorem In2.ofMade {pb hb mb rb bk n L0 : Nat} {me : Int} {w1 w2 : World} (hp : PP w1.heap.size pb hb mb rb 0 me n (.slice none 0 0) (.slice none 0 0) (.pointer (some ⟨bk, 0, none⟩)) (.slice none 0 0) [] [] w2) (hL : L0 ≤ w1.heap.size) (h1 : w1.heap.size ≤ pb) (h2 : w1.heap.size ≤ hb) (h3 : w1.heap.size ≤ mb) :
    In2 L0 n 0 (.pointer (some ⟨bk, 0, none⟩)) ⟨pb, hb, mb, rb, me⟩ ⟨.slice none 0 0, [], []⟩ w2 ∧ ∀ k, own2 ⟨pb, hb, mb, rb, me⟩ ⟨.slice none 0 0, [], []⟩ k → w1.heap.size ≤ k := by
  refine ⟨⟨⟨hp.box, hp.vw, ⟨hp.rv.blk, ownsRow_mono hp.rv.row hL, Nat.le_trans hL hp.rv.lo⟩, hp.ag, hp.al⟩, ⟨show L0 ≤ pb from by omega, show L0 ≤ hb from by omega, show L0 ≤ mb from by omega⟩⟩, fun k hk => ?_⟩
  rcases hk with rfl | rfl | rfl | rfl | hk
  · exact h1
  · exact h2
  · exact h3
  · exact hp.rv.lo
  · cases hk
def RunOk (Q : OpA → Prop) (ao : Option Addr) (Ns : Nat) (os : List OpA) (w : World) : Prop := os.length = Ns ∧ (∀ o ∈ os, o.ok) ∧ (0 < Ns → ∃ b off, ao = some ⟨b, off, none⟩ ∧ ∀ i o, os[i]? = some o → OpAt w b (off + i * 9) o)
end Go.Proofs.Ytdblbjcdnkiepaa
