import Derived.Test.YtifgmefdlmjocaaSt0
import Derived.Test.YtifgmefdlmjocaaLt4
namespace Go.Proofs.Ytifgmefdlmjocaa
open Go.RowKit Go.PlainAid Go.MapKept
set_option linter.unusedVariables false
set_option linter.unusedSimpArgs false
/-- The talk: all replicas' views, all that each has had, and the value that holds what is under way. -/
structure TG (L tb vr vc n : Nat) (hb mb : Nat → Nat) (LV : Nat → List Ent) (hv : Nat → Value) (Hs : Nat → List Ent) (sv : Value) (w : World) : Prop where
  tk : ∃ C, Blk w tb C 38 ∧ C[0]? = some (.slice (some ⟨vr, 0, none⟩) n vc) ∧ (∀ k, k < 32 → C[1 + k]? = some (hv k)) ∧ C[33]? = some sv
  vrow : ∃ cur, Blk w vr cur 32 ∧ ∀ i, i < n → cur[i]? = some (Ptr (hb i))
  vs : ∀ i, i < n → Vw (hb i) (mb i) ((i : Nat) : Int) n (LV i) w
  ne : ∀ i j, i < n → j < n → i ≠ j → mb i ≠ mb j
  rows : ∀ k, k < 32 → w.ownsRow L 46 7 (hv k) (Hs k).length (flatV (Hs k))
  apart : ∀ j k, j < 32 → k < 32 → j ≠ k → ∀ b, (hv j).ownBlock = some b → (hv k).ownBlock ≠ some b
  lo : L ≤ tb ∧ ∀ i, i < n → L ≤ mb i
  low : L ≤ w.heap.size
def updL (LV : Nat → List Ent) (r : Nat) (l : List Ent) (i : Nat) : List Ent := if i = r then l else LV i
section
variable {L tb vr vc n : Nat} {hb mb : Nat → Nat} {LV LV' : Nat → List Ent} {hv : Nat → Value} {Hs : Nat → List Ent} {sv : Value} {w w' w5 : World}
theorem TG.keep (h : TG L tb vr vc n hb mb LV hv Hs sv w) {A : Nat → Prop} (hc : Chg A w w') (a1 : ¬ A tb) (a2 : ¬ A vr) (a3 : ∀ i, i < n → Vw (hb i) (mb i) ((i : Nat) : Int) n (LV' i) w') (a5 : ∀ k, k < 32 → ∀ b, (hv k).ownBlock = some b → ¬ A b) : TG L tb vr vc n hb mb LV' hv Hs sv w' := by
  obtain ⟨C, hB, c0, ck, cs⟩ := h.tk
  obtain ⟨cur, hvb, p0⟩ := h.vrow
  exact ⟨⟨C, hc.blk hB a1, c0, ck, cs⟩, ⟨cur, hc.blk hvb a2, p0⟩, a3, h.ne, fun k hk => ownsRow_same (h.rows k hk) (fun g hg => hc.block g (ownsRow_lt (h.rows k hk) hg).2 (a5 k hk g hg)), h.apart, h.lo, Nat.le_trans h.low hc.size⟩
theorem TG.more (h : TG L tb vr vc n hb mb LV hv Hs sv w) (hb2 : Below w.heap.size w w') : TG L tb vr vc n hb mb LV hv Hs sv w' :=
  h.keep (Chg.ofBelow (fun _ => False) hb2) (fun e => e) (fun e => e) (fun i hi => (h.vs i hi).more hb2) (fun _ _ _ _ e => e)
theorem TG.rowm (h : TG L tb vr vc n hb mb LV hv Hs sv w) {m : Nat} {LL : List Ent} (hm : HMap w m LL) : (¬ tb = m) ∧ (¬ vr = m) ∧ ∀ k, k < 32 → ∀ b, (hv k).ownBlock = some b → ¬ b = m := by
  obtain ⟨C, hB, _⟩ := h.tk
  obtain ⟨cur, hvb, _⟩ := h.vrow
  refine ⟨hm.ne_b hB, hm.ne_b hvb, fun k hk b hbk => ?_⟩
  obtain ⟨cu, hcu⟩ := ownsRow_type (h.rows k hk) hbk
  exact hm.ne_b (show Blk w b cu 46 from hcu)
/-- A replica's views have changed. -/
theorem TG.tell (h : TG L tb vr vc n hb mb LV hv Hs sv w) {r : Nat} (hr : r < n) {l : List Ent} (hv0 : Vw (hb r) (mb r) (r : Int) n l w') (hc : Chg (fun k => k = mb r) w w') : TG L tb vr vc n hb mb (updL LV r l) hv Hs sv w' := by
  obtain ⟨a1, a2, a3⟩ := h.rowm (h.vs r hr).map
  refine h.keep hc a1 a2 (fun i hi => ?_) a3
  unfold updL
  by_cases e : i = r
  · subst e
    rw [if_pos rfl]
    exact hv0
  · rw [if_neg e]
    exact (h.vs i hi).keep hc ((h.vs r hr).map.ne_b (h.vs i hi).blk) (h.ne i r hi hr e)
theorem TG.tbne (h : TG L tb vr vc n hb mb LV hv Hs sv w) : vr ≠ tb ∧ (∀ i, i < n → hb i ≠ tb ∧ mb i ≠ tb) ∧ ∀ k, k < 32 → ∀ b, (hv k).ownBlock = some b → b ≠ tb := by
  obtain ⟨C, hB, _⟩ := h.tk
  obtain ⟨cur, hvb, _⟩ := h.vrow
  refine ⟨hvb.ne_t hB (by decide), fun i hi => ⟨(h.vs i hi).blk.ne_t hB (by decide), fun e => ((h.vs i hi).map.ne_b hB) e.symm⟩, fun k hk b hbk => ?_⟩
  obtain ⟨cu, hcu⟩ := ownsRow_type (h.rows k hk) hbk
  exact Blk.ne_t (show Blk w b cu 46 from hcu) hB (by decide)
/-- One view more that was had. -/
theorem TG.had (h : TG L tb vr vc n hb mb LV hv Hs sv w) {k : Nat} (hk : k < 32) {v' : Value} {e : Ent} (hg : Grew w w5 (hv k) v') (ho : w5.ownsRow L 46 7 v' ((Hs k).length + 1) (flatV (Hs k ++ [e]))) :
    TG L tb vr vc n hb mb LV (fun j => if j = k then v' else hv j) (fun j => if j = k then Hs k ++ [e] else Hs j) sv (w5.setCell ⟨tb, 1 + k, none⟩ v') := by
  have hc := hg.chg
  obtain ⟨C, hB, c0, ck, cs⟩ := h.tk
  obtain ⟨cur, hvb, p0⟩ := h.vrow
  have tyk : ∀ (b : Nat) (D : Array Value) (U : TypeId), Blk w b D U → U ≠ 46 → ¬ (hv k).ownBlock = some b := fun b D U hB hU e => by
    obtain ⟨cu, hcu⟩ := ownsRow_type (h.rows k hk) e
    exact Blk.ne_t hB (show Blk w b cu 46 from hcu) hU rfl
  have mpk : ∀ (b : Nat) (LL : List Ent), HMap w b LL → ¬ (hv k).ownBlock = some b := fun b LL hm e => by
    obtain ⟨cu, hcu⟩ := ownsRow_type (h.rows k hk) e
    exact hm.ne_b (show Blk w b cu 46 from hcu) rfl
  have hb5 := hc.blk hB (tyk _ _ _ hB (by decide))
  have hv5 := hc.blk hvb (tyk _ _ _ hvb (by decide))
  have w0 : ∀ i, i < n → Vw (hb i) (mb i) ((i : Nat) : Int) n (LV i) w5 := fun i hi => (h.vs i hi).keep hc (tyk _ _ _ (h.vs i hi).blk (by decide)) (mpk _ _ (h.vs i hi).map)
  have hs : Chg (fun b => b = tb) w5 (w5.setCell ⟨tb, 1 + k, none⟩ v') := ⟨rfl, rfl, rfl, by simp [World.setCell], fun j hj hn => Below.heap_setCell _ _ _ _ hn⟩
  obtain ⟨n1, n2, n6⟩ := h.tbne
  refine ⟨⟨_, hb5.set (1 + k) v', ?_, fun j hj => ?_, ?_⟩, ⟨cur, hs.blk hv5 n1, p0⟩, fun i hi => (w0 i hi).keep hs (n2 i hi).1 (n2 i hi).2, h.ne, fun j hj => ?_, fun i j hi hj hij b e1 e2 => ?_, h.lo, Nat.le_trans h.low (Nat.le_trans hc.size hs.size)⟩
  · rw [Array.getElem?_setIfInBounds_ne (by omega)]
    exact c0
  · have hsz : 1 + j < C.size := (Array.getElem?_eq_some_iff.1 (ck j hj)).1
    by_cases e1 : j = k
    · subst e1
      simp [Array.getElem?_setIfInBounds, hsz]
    · rw [Array.getElem?_setIfInBounds_ne (by omega), if_neg e1]
      exact ck j hj
  · rw [Array.getElem?_setIfInBounds_ne (by omega)]
    exact cs
  · by_cases e1 : j = k
    · subst e1
      simp only [if_true]
      have := ownsRow_same ho (w' := w5.setCell ⟨tb, 1 + j, none⟩ v') (fun g hg2 => by
        obtain ⟨cu, hcu⟩ := ownsRow_type ho hg2
        exact Below.heap_setCell _ _ _ _ (Blk.ne_t (show Blk w5 g cu 46 from hcu) hb5 (by decide)))
      simpa using this
    · simp only [if_neg e1]
      exact ownsRow_same (h.rows j hj) (fun g hg2 => (hs.block g (Nat.lt_of_lt_of_le (ownsRow_lt (h.rows j hj) hg2).2 hc.size) (n6 j hj g hg2)).trans (hc.block g (ownsRow_lt (h.rows j hj) hg2).2 (h.apart j k hj hk e1 g hg2)))
  · by_cases q1 : i = k
    · subst q1
      simp only [if_true] at e1
      rw [if_neg (fun e => hij e.symm)] at e2
      rcases hg.at' b e1 with h1 | h1
      · exact h.apart i j hi hj hij b h1 e2
      · have := (ownsRow_lt (h.rows j hj) e2).2
        omega
    · rw [if_neg q1] at e1
      by_cases q2 : j = k
      · subst q2
        simp only [if_true] at e2
        rcases hg.at' b e2 with h1 | h1
        · exact h.apart i j hi hj hij b e1 h1
        · have := (ownsRow_lt (h.rows i hi) e1).2
          omega
      · rw [if_neg q2] at e2
        exact h.apart i j hi hj hij b e1 e2
/-- A box that is none of the talk's is written to. -/
theorem TG.box (h : TG L tb vr vc n hb mb LV hv Hs sv w) {bx j : Nat} {D : Array Value} {v : Value} (hB : Blk w bx D 46) (hbr : ∀ k, k < 32 → ∀ b, (hv k).ownBlock = some b → b ≠ bx) : TG L tb vr vc n hb mb LV hv Hs sv (w.setCell ⟨bx, j, none⟩ v) := by
  have hs : Chg (fun b => b = bx) w (w.setCell ⟨bx, j, none⟩ v) := ⟨rfl, rfl, rfl, by simp [World.setCell], fun j hj hn => Below.heap_setCell _ _ _ _ hn⟩
  obtain ⟨C, hb', _⟩ := h.tk
  obtain ⟨cur, hvb, _⟩ := h.vrow
  exact h.keep hs (hb'.ne_t hB (by decide)) (hvb.ne_t hB (by decide)) (fun i hi => (h.vs i hi).keep hs ((h.vs i hi).blk.ne_t hB (by decide)) (fun e => (h.vs i hi).map.ne_b hB e.symm)) hbr
theorem TG.cellr (h : TG L tb vr vc n hb mb LV hv Hs sv w) {r : Nat} (hr : r < n) : w.cell? ⟨tb, 0, none⟩ = some (.slice (some ⟨vr, 0, none⟩) n vc) ∧ w.cell? ⟨vr, r, none⟩ = some (Ptr (hb r)) ∧ ∀ k, k < 32 → w.cell? ⟨tb, 1 + k, none⟩ = some (hv k) := by
  obtain ⟨C, hB, c0, ck, _⟩ := h.tk
  obtain ⟨cur, hvb, p0⟩ := h.vrow
  exact ⟨(hB.cell 0).trans c0, (hvb.cell r).trans (p0 r hr), fun k hk => (hB.cell _).trans (ck k hk)⟩
end
/-- The blocks that a step of a replica may change. -/
def TB (tb m : Nat) (hv : Nat → Value) (b : Nat) : Prop := b = tb ∨ b = m ∨ ∃ k, k < 32 ∧ (hv k).ownBlock = some b
theorem TG.tb' {L tb vr vc n r : Nat} {hb mb : Nat → Nat} {LV : Nat → List Ent} {hv : Nat → Value} {Hs : Nat → List Ent} {sv : Value} {w w' : World} (h : TG L tb vr vc n hb mb LV hv Hs sv w) (hr : r < n) (hc : Chg (TB tb (mb r) hv) w w') : Below L w w' :=
  hc.below h.low (fun b hb => by
    rcases hb with rfl | rfl | ⟨k, hk, e⟩
    · exact h.lo.1
    · exact h.lo.2 r hr
    · exact (ownsRow_lt (h.rows k hk) e).1)
/-- What is had behind a step. -/
def hadNext (l : List Ent) (e : Ent) : List Ent := match l.getLast? with
  | none => l ++ [{ e with v := (l.length : Int) + 1 }]
  | some u => if sameV { u with v := (l.length : Int) + 1 } { e with v := (l.length : Int) + 1 } = true then l else l ++ [{ e with v := (l.length : Int) + 1 }]
theorem updL_self {Hs : Nat → List Ent} {r : Nat} {l : List Ent} (h : l = Hs r) : updL Hs r l = Hs := by
  funext i
  unfold updL
  split
  · rename_i e
    rw [e, h]
  · rfl
theorem hadNext_nil {l : List Ent} {e : Ent} (h : l.length = 0) : hadNext l e = l ++ [{ e with v := (l.length : Int) + 1 }] := by
  obtain rfl := List.length_eq_zero_iff.1 h
  rfl
theorem hadNext_last {l : List Ent} {e el : Ent} {lm : Nat} (h : l[lm]? = some el) (hl : lm + 1 = l.length) : hadNext l e = if sameV { el with v := (l.length : Int) + 1 } { e with v := (l.length : Int) + 1 } = true then l else l ++ [{ e with v := (l.length : Int) + 1 }] := by
  unfold hadNext
  rw [List.getLast?_eq_getElem?, show l.length - 1 = lm by omega, h]
theorem bg_tg {w w2 : World} {tb n : Nat} {ps : List (Nat × Nat)} (h : BG w tb n n ps w2) (hn : 2 ≤ n ∧ n ≤ 8) (htb : w.heap.size ≤ tb) : ∃ vr vc hb mb, TG w.heap.size tb vr vc n hb mb (fun _ => []) (fun _ => .slice none 0 0) (fun _ => []) (.slice none 0 0) w2 := by
  have hl := h.len
  obtain ⟨v, hb, ho⟩ := h.tk
  rcases ho.2 with ⟨_, h0⟩ | ⟨g, cap, cur, rfl, hbg, hg, h4, h5, h6, h7⟩
  · omega
  have hcur : ∀ (i : Nat) (p : Nat × Nat), ps[i]? = some p → cur[i]? = some (Ptr p.1) := fun i p hp => by
    have hi := (List.getElem?_eq_some_iff.1 hp).1
    have e1 : (ps.map fun p => Ptr p.1)[i]? = some (Ptr p.1) := by rw [List.getElem?_map, hp]; rfl
    rw [← h7, List.getElem?_take_of_lt (by omega), Array.getElem?_toList] at e1
    exact e1
  have hps : ∀ i, i < n → ps[i]? = some (ps.getD i (0, 0)) := fun i hi => by
    rw [List.getD_eq_getElem?_getD, List.getElem?_eq_getElem (by omega)]
    rfl
  refine ⟨g, cap, fun i => (ps.getD i (0, 0)).1, fun i => (ps.getD i (0, 0)).2, ⟨_, hb, by rfl, fun k hk => ?_, by rfl⟩, ⟨cur, hg, fun i hi => hcur i _ (hps i hi)⟩, fun i hi => (h.vs i _ (hps i hi)).1, fun i j hi hj hij => h.ne i j _ _ (hps i hi) (hps j hj) hij, fun k hk => World.ownsRow_nil _ _ _ _, (fun j k _ _ _ b e => by cases e), ⟨htb, fun i hi => (h.vs i _ (hps i hi)).2.2⟩, h.bel.size⟩
  have hz : ∀ k, k < 32 → Z38[1 + k]? = some (.slice none 0 0) := fun k hk => match k, hk with
    | 0, _ => rfl
    | 1, _ => rfl
    | 2, _ => rfl
    | 3, _ => rfl
    | 4, _ => rfl
    | 5, _ => rfl
    | 6, _ => rfl
    | 7, _ => rfl
    | 8, _ => rfl
    | 9, _ => rfl
    | 10, _ => rfl
    | 11, _ => rfl
    | 12, _ => rfl
    | 13, _ => rfl
    | 14, _ => rfl
    | 15, _ => rfl
    | 16, _ => rfl
    | 17, _ => rfl
    | 18, _ => rfl
    | 19, _ => rfl
    | 20, _ => rfl
    | 21, _ => rfl
    | 22, _ => rfl
    | 23, _ => rfl
    | 24, _ => rfl
    | 25, _ => rfl
    | 26, _ => rfl
    | 27, _ => rfl
    | 28, _ => rfl
    | 29, _ => rfl
    | 30, _ => rfl
    | 31, _ => rfl
    | k + 32, h => absurd h (by omega)
  rw [Array.getElem?_setIfInBounds_ne (by omega)]
  exact hz k hk
end Go.Proofs.Ytifgmefdlmjocaa
