import Derived.Test.YtcjgicfmfjomgaaTh0
import Derived.Test.YtcjgicfmfjomgaaLndB
import Derived.Test.YtcjgicfmfjomgaaTw
namespace Go.Proofs.Ytcjgicfmfjomgaa
open Go.RowKit Go.PlainAid Go.MapKept
set_option linter.unusedVariables false
set_option linter.unusedSimpArgs false
/-- An end of a line: where it lies, what was handed in there, how much of it came out at the other. -/
structure EV where
  lb : Nat
  cb : Nat
  mb : Nat
  uv : Value
  x : LV
  iv : Value
  inn : List Dv
  out : Nat
/-- A line. -/
structure Ln where
  e : Nat → EV
  sv : Value
  sent : List Sgm
def Ln.setE (S : Ln) (i : Nat) (E : EV) : Ln := { S with e := fun k => if k = i then E else S.e k }
theorem Ln.setE_same (S : Ln) (i : Nat) (E : EV) : (S.setE i E).e i = E := if_pos rfl
theorem Ln.setE_ne (S : Ln) {i k : Nat} (E : EV) (h : k ≠ i) : (S.setE i E).e k = S.e k := if_neg h
def lnbox (S : Ln) : Array Value := #[.pointer (some ⟨(S.e 0).lb, 0, none⟩), .pointer (some ⟨(S.e 1).lb, 0, none⟩), (S.e 0).iv, (S.e 1).iv, .int .i64 ((S.e 0).out : Int), .int .i64 ((S.e 1).out : Int), S.sv]
/-- An end in memory. -/
structure EM (L : Nat) (E : EV) (w : World) : Prop where
  lm : LM L E.lb E.cb E.mb E.uv E.x w
  ir : w.ownsRow L 41 1 E.iv E.inn.length (E.inn.map Dv.v)
  id : ∀ d ∈ E.inn, w.ownsRow L 5 1 d.v d.s.length (d.s.map B)
def EV.own (E : EV) (k : Nat) : Prop := lown E.lb E.cb E.mb E.uv E.x k ∨ E.iv.ownBlock = some k ∨ ∃ d ∈ E.inn, d.v.ownBlock = some k
theorem EM.lt {L : Nat} {E : EV} {w : World} (h : EM L E w) {k : Nat} (hk : E.own k) : L ≤ k ∧ k < w.heap.size := by
  rcases hk with q | q | ⟨d, hd, q⟩
  · exact h.lm.lt q
  · exact ownsRow_lt h.ir q
  · exact ownsRow_lt (h.id d hd) q
theorem EM.keep {L : Nat} {E : EV} {w w' : World} (h : EM L E w) {A : Nat → Prop} (hc : Chg A w w') (hA : ∀ k, E.own k → ¬ A k) : EM L E w' :=
  ⟨h.lm.keep hc (fun k hk => hA k (.inl hk)), ownsRow_same h.ir (fun g e => hc.block g (ownsRow_lt h.ir e).2 (hA g (.inr (.inl e)))), fun d hd => ownsRow_same (h.id d hd) (fun g e => hc.block g (ownsRow_lt (h.id d hd) e).2 (hA g (.inr (.inr ⟨d, hd, e⟩))))⟩
/-- Whose a block is, by a colour. -/
structure EC (E : EV) (i : Nat) (col : Nat → Nat) : Prop where
  ce : ∀ k, lown E.lb E.cb E.mb E.uv E.x k → col k = 1 + i
  ci : ∀ k, E.iv.ownBlock = some k → col k = 3 + i
  cd : ∀ d ∈ E.inn, ∀ k, d.v.ownBlock = some k → col k = 5
theorem EC.of {E : EV} {i : Nat} {col : Nat → Nat} (h : EC E i col) {k : Nat} (hk : E.own k) : col k = 1 + i ∨ col k = 3 + i ∨ col k = 5 := by
  rcases hk with q | q | ⟨d, hd, q⟩
  · exact .inl (h.ce k q)
  · exact .inr (.inl (h.ci k q))
  · exact .inr (.inr (h.cd d hd k q))
structure LNM (L xb : Nat) (S : Ln) (col : Nat → Nat) (w : World) : Prop where
  b : Blk w xb (lnbox S) 60
  em : ∀ i, i < 2 → EM L (S.e i) w
  ec : ∀ i, i < 2 → EC (S.e i) i col
  sr : w.ownsRow L 45 5 S.sv S.sent.length (flatG S.sent)
  sd : ∀ g ∈ S.sent, w.ownsRow L 5 1 g.d.v g.d.s.length (g.d.s.map B)
  lo : L ≤ xb
  cx : col xb = 0
  cs : ∀ k, S.sv.ownBlock = some k → col k = 6
  cg : ∀ g ∈ S.sent, ∀ k, g.d.v.ownBlock = some k → col k = 7
section
variable {L xb : Nat} {S : Ln} {col : Nat → Nat} {w w' : World}
theorem LNM.hL (h : LNM L xb S col w) : L ≤ w.heap.size := Nat.le_trans h.lo (Nat.le_of_lt h.b.lt)
/-- Colours of blocks that are not there yet may change. -/
theorem LNM.recol (h : LNM L xb S col w) {col' : Nat → Nat} (hc : ∀ k, k < w.heap.size → col' k = col k) : LNM L xb S col' w := by
  refine ⟨h.b, h.em, fun i hi => ⟨fun k hk => ?_, fun k hk => ?_, fun d hd k hk => ?_⟩, h.sr, h.sd, h.lo, (hc _ h.b.lt).trans h.cx, fun k hk => (hc k (ownsRow_lt h.sr hk).2).trans (h.cs k hk), fun g hg k hk => (hc k (ownsRow_lt (h.sd g hg) hk).2).trans (h.cg g hg k hk)⟩
  · exact (hc k ((h.em i hi).lm.lt hk).2).trans ((h.ec i hi).ce k hk)
  · exact (hc k (ownsRow_lt (h.em i hi).ir hk).2).trans ((h.ec i hi).ci k hk)
  · exact (hc k (ownsRow_lt ((h.em i hi).id d hd) hk).2).trans ((h.ec i hi).cd d hd k hk)
/-- What is of another colour may change. -/
theorem LNM.keep (h : LNM L xb S col w) {A : Nat → Prop} (hc : Chg A w w') (hA : ∀ k, k < w.heap.size → A k → 8 ≤ col k) : LNM L xb S col w' := by
  have hn : ∀ k, k < w.heap.size → col k < 8 → w'.heap[k]? = w.heap[k]? := fun k hk h8 => hc.block k hk (fun a => by have := hA k hk a; omega)
  refine ⟨(hn xb h.b.lt (by rw [h.cx]; omega)).trans h.b, fun i hi => (h.em i hi).keep hc (fun k hk a => ?_), h.ec, ownsRow_same h.sr (fun g e => hn g (ownsRow_lt h.sr e).2 (by rw [h.cs g e]; omega)), fun g hg => ownsRow_same (h.sd g hg) (fun k e => hn k (ownsRow_lt (h.sd g hg) e).2 (by rw [h.cg g hg k e]; omega)), h.lo, h.cx, h.cs, h.cg⟩
  have h1 := hA k ((h.em i hi).lt hk).2 a
  rcases (h.ec i hi).of hk with q | q | q <;> omega
theorem LNM.more (h : LNM L xb S col w) (hb : Below w.heap.size w w') : LNM L xb S col w' := h.keep (Chg.ofBelow (fun _ => False) hb) (fun _ _ e => e.elim)
/-- A line whose end i has gone on. -/
def Ln.endX (S : Ln) (i : Nat) (uv' : Value) (x' : LV) : Ln := S.setE i { S.e i with uv := uv', x := x' }
theorem lnbox_endX (S : Ln) (i : Nat) (uv' : Value) (x' : LV) : lnbox (S.endX i uv' x') = lnbox S := by
  unfold lnbox Ln.endX Ln.setE
  by_cases h0 : 0 = i
  · subst h0; rfl
  · by_cases h1 : 1 = i
    · subst h1; rfl
    · simp [h0, h1]
theorem LNM.endStep (h : LNM L xb S col w) {i : Nat} (hi : i < 2) {uv' : Value} {x' : LV} (hm : LM L (S.e i).lb (S.e i).cb (S.e i).mb uv' x' w') (hs : LStp (S.e i).lb (S.e i).cb (S.e i).mb (S.e i).uv uv' (S.e i).x x' w w') :
    ∃ col', LNM L xb (S.endX i uv' x') col' w' ∧ ∀ k, k < w.heap.size → col' k = col k := by
  obtain ⟨col', hcol⟩ : ∃ col' : Nat → Nat, col' = fun k => if k < w.heap.size then col k else 1 + i := ⟨_, rfl⟩
  have hlow : ∀ k, k < w.heap.size → col' k = col k := fun k hk => by rw [hcol]; exact if_pos hk
  have hhi : ∀ k, w.heap.size ≤ k → col' k = 1 + i := fun k hk => by rw [hcol]; exact if_neg (by omega)
  have h' := h.recol hlow
  have hn : ∀ k, k < w.heap.size → col' k ≠ 1 + i → w'.heap[k]? = w.heap[k]? := fun k hk h8 => hs.1.block k hk (fun a => h8 ((h'.ec i hi).ce k a))
  have hrow : ∀ {t z n : Nat} {u : Value} {xs : List Value}, w.ownsRow L t z u n xs → (∀ k, u.ownBlock = some k → col' k ≠ 1 + i) → w'.ownsRow L t z u n xs := fun hq hk => ownsRow_same hq (fun g e => hn g (ownsRow_lt hq e).2 (hk g e))
  refine ⟨col', ⟨?_, fun j hj => ?_, fun j hj => ?_, hrow h'.sr (fun k e => by rw [h'.cs k e]; omega), fun g hg => hrow (h'.sd g hg) (fun k e => by rw [h'.cg g hg k e]; omega), h.lo, h'.cx, h'.cs, h'.cg⟩, hlow⟩
  · rw [lnbox_endX]
    exact (hn xb h.b.lt (by rw [h'.cx]; omega)).trans h.b
  · by_cases e : j = i
    · subst e
      unfold Ln.endX
      rw [Ln.setE_same]
      exact ⟨hm, hrow (h'.em j hi).ir (fun k e => by rw [(h'.ec j hi).ci k e]; omega), fun d hd => hrow ((h'.em j hi).id d hd) (fun k e => by rw [(h'.ec j hi).cd d hd k e]; omega)⟩
    · unfold Ln.endX
      rw [Ln.setE_ne S _ e]
      refine (h'.em j hj).keep hs.1 (fun k hk a => ?_)
      have h1 := (h'.ec i hi).ce k a
      rcases (h'.ec j hj).of hk with q | q | q <;> omega
  · by_cases e : j = i
    · subst e
      unfold Ln.endX
      rw [Ln.setE_same]
      refine ⟨fun k hk => ?_, (h'.ec j hi).ci, (h'.ec j hi).cd⟩
      rcases hs.2 k hk with q | q
      · exact (h'.ec j hi).ce k q
      · exact hhi k q
    · unfold Ln.endX
      rw [Ln.setE_ne S _ e]
      exact h'.ec j hj
/-- A line where more of what was handed in at i has come out. -/
def Ln.outO (S : Ln) (i o : Nat) : Ln := S.setE i { S.e i with out := o }
theorem LNM.ne_xb (h : LNM L xb S col w) {i : Nat} (hi : i < 2) {k : Nat} (hk : (S.e i).own k) : k ≠ xb := fun e => by
  subst e
  have := h.cx
  rcases (h.ec i hi).of hk with q | q | q <;> omega
theorem LNM.setBox (h : LNM L xb S col w) {S' : Ln} (hc : Chg (fun k => k = xb) w w') (hb : Blk w' xb (lnbox S') 60) (he : ∀ i, i < 2 → EM L (S.e i) w' → EM L (S'.e i) w') (hec : ∀ i, i < 2 → EC (S.e i) i col → EC (S'.e i) i col) (h1 : S'.sv = S.sv) (h2 : S'.sent = S.sent) : LNM L xb S' col w' := by
  have hn : ∀ k, k < w.heap.size → col k ≠ 0 → w'.heap[k]? = w.heap[k]? := fun k hk h8 => hc.block k hk (fun a => h8 (by rw [a]; exact h.cx))
  refine ⟨hb, fun i hi => he i hi ((h.em i hi).keep hc (fun k hk => h.ne_xb hi hk)), fun i hi => hec i hi (h.ec i hi), by rw [h1, h2]; exact ownsRow_same h.sr (fun g e => hn g (ownsRow_lt h.sr e).2 (by rw [h.cs g e]; omega)), fun g hg => ?_, h.lo, h.cx, by rw [h1]; exact h.cs, by rw [h2]; exact h.cg⟩
  rw [h2] at hg
  exact ownsRow_same (h.sd g hg) (fun k e => hn k (ownsRow_lt (h.sd g hg) e).2 (by rw [h.cg g hg k e]; omega))
theorem LNM.setOut (h : LNM L xb S col w) {i : Nat} (hi : i < 2) (o : Nat) : LNM L xb (S.outO i o) col (w.setCell ⟨xb, 4 + i, none⟩ (.int .i64 (o : Int))) := by
  refine h.setBox (setCell_chg w xb (4 + i) _) ?_ (fun j hj hm => ?_) (fun j hj hc => ?_) rfl rfl
  · have h1 := h.b.set (4 + i) (.int .i64 (o : Int))
    rcases (by omega : i = 0 ∨ i = 1) with rfl | rfl
    · exact h1
    · exact h1
  · unfold Ln.outO
    by_cases e : j = i
    · subst e; rw [Ln.setE_same]; exact ⟨hm.lm, hm.ir, hm.id⟩
    · rw [Ln.setE_ne S _ e]; exact hm
  · unfold Ln.outO
    by_cases e : j = i
    · subst e; rw [Ln.setE_same]; exact ⟨hc.ce, hc.ci, hc.cd⟩
    · rw [Ln.setE_ne S _ e]; exact hc
end
end Go.Proofs.Ytcjgicfmfjomgaa
