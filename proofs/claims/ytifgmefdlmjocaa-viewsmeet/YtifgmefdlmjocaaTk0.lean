import Derived.Test.YtifgmefdlmjocaaSme
namespace Go.Proofs.Ytifgmefdlmjocaa
open Go.RowKit Go.PlainAid Go.MapKept
set_option linter.unusedVariables false
set_option linter.unusedSimpArgs false
def Ptr (h : Nat) : Value := .pointer (some ⟨h, 0, none⟩)
/-- The talk, as far as replicas 0 and 1 go; only replica 0 tells. -/
structure TK (L tb vr vc h0 m0 h1 m1 n : Nat) (L0 L1 : List Ent) (hv : Nat → Value) (Hs : Nat → List Ent) (w : World) : Prop where
  tk : ∃ C, Blk w tb C 38 ∧ C[0]? = some (.slice (some ⟨vr, 0, none⟩) n vc) ∧ ∀ k, k < 4 → C[1 + k]? = some (hv k)
  vrow : ∃ cur, Blk w vr cur 32 ∧ cur[0]? = some (Ptr h0) ∧ cur[1]? = some (Ptr h1)
  v0 : Vw h0 m0 0 n L0 w
  v1 : Vw h1 m1 1 n L1 w
  ne : m0 ≠ m1
  rows : ∀ k, k < 4 → w.ownsRow L 46 7 (hv k) (Hs k).length (flatV (Hs k))
  apart : ∀ j k, j < 4 → k < 4 → j ≠ k → ∀ b, (hv j).ownBlock = some b → (hv k).ownBlock ≠ some b
  lo : L ≤ tb ∧ L ≤ m0 ∧ L ≤ m1
  low : L ≤ w.heap.size
section
variable {L tb vr vc h0 m0 h1 m1 n : Nat} {L0 L0' L1 L1' : List Ent} {hv : Nat → Value} {Hs : Nat → List Ent} {w w' w5 : World}
theorem TK.keep (h : TK L tb vr vc h0 m0 h1 m1 n L0 L1 hv Hs w) {A : Nat → Prop} (hc : Chg A w w') (a1 : ¬ A tb) (a2 : ¬ A vr) (a3 : Vw h0 m0 0 n L0' w') (a4 : Vw h1 m1 1 n L1' w') (a5 : ∀ k, k < 4 → ∀ b, (hv k).ownBlock = some b → ¬ A b) : TK L tb vr vc h0 m0 h1 m1 n L0' L1' hv Hs w' := by
  obtain ⟨C, hb, c0, ck⟩ := h.tk
  obtain ⟨cur, hvb, p0, p1⟩ := h.vrow
  exact ⟨⟨C, hc.blk hb a1, c0, ck⟩, ⟨cur, hc.blk hvb a2, p0, p1⟩, a3, a4, h.ne, fun k hk => ownsRow_same (h.rows k hk) (fun g hg => hc.block g (ownsRow_lt (h.rows k hk) hg).2 (a5 k hk g hg)), h.apart, h.lo, Nat.le_trans h.low hc.size⟩
theorem TK.more (h : TK L tb vr vc h0 m0 h1 m1 n L0 L1 hv Hs w) (hb : Below w.heap.size w w') : TK L tb vr vc h0 m0 h1 m1 n L0 L1 hv Hs w' :=
  h.keep (Chg.ofBelow (fun _ => False) hb) (fun e => e) (fun e => e) (h.v0.more hb) (h.v1.more hb) (fun _ _ _ _ e => e)
theorem TK.rowm (h : TK L tb vr vc h0 m0 h1 m1 n L0 L1 hv Hs w) {mb : Nat} {LL : List Ent} (hm : HMap w mb LL) : (¬ tb = mb) ∧ (¬ vr = mb) ∧ ∀ k, k < 4 → ∀ b, (hv k).ownBlock = some b → ¬ b = mb := by
  obtain ⟨C, hb, _⟩ := h.tk
  obtain ⟨cur, hvb, _⟩ := h.vrow
  refine ⟨hm.ne_b hb, hm.ne_b hvb, fun k hk b hbk => ?_⟩
  obtain ⟨cu, hcu⟩ := ownsRow_type (h.rows k hk) hbk
  exact hm.ne_b (show Blk w b cu 46 from hcu)
/-- Replica 0 has told something. -/
theorem TK.tell (h : TK L tb vr vc h0 m0 h1 m1 n L0 L1 hv Hs w) (hv0 : Vw h0 m0 0 n L0' w') (hc : Chg (fun k => k = m0) w w') : TK L tb vr vc h0 m0 h1 m1 n L0' L1 hv Hs w' := by
  obtain ⟨a1, a2, a3⟩ := h.rowm h.v0.map
  exact h.keep hc a1 a2 hv0 (h.v1.keep hc (h.v0.map.ne_b h.v1.blk) (fun e => h.ne e.symm)) a3
/-- Replica 1 has taken something. -/
theorem TK.take (h : TK L tb vr vc h0 m0 h1 m1 n L0 L1 hv Hs w) (hv1 : Vw h1 m1 1 n L1' w') (hc : Chg (fun k => k = m1) w w') : TK L tb vr vc h0 m0 h1 m1 n L0 L1' hv Hs w' := by
  obtain ⟨a1, a2, a3⟩ := h.rowm h.v1.map
  exact h.keep hc a1 a2 (h.v0.keep hc (h.v1.map.ne_b h.v0.blk) h.ne) hv1 a3
theorem TK.tbne (h : TK L tb vr vc h0 m0 h1 m1 n L0 L1 hv Hs w) : vr ≠ tb ∧ h0 ≠ tb ∧ h1 ≠ tb ∧ m0 ≠ tb ∧ m1 ≠ tb ∧ ∀ k, k < 4 → ∀ b, (hv k).ownBlock = some b → b ≠ tb := by
  obtain ⟨C, hb, _⟩ := h.tk
  obtain ⟨cur, hvb, _⟩ := h.vrow
  refine ⟨hvb.ne_t hb (by decide), h.v0.blk.ne_t hb (by decide), h.v1.blk.ne_t hb (by decide), fun e => (h.v0.map.ne_b hb) e.symm, fun e => (h.v1.map.ne_b hb) e.symm, fun k hk b hbk => ?_⟩
  obtain ⟨cu, hcu⟩ := ownsRow_type (h.rows k hk) hbk
  exact Blk.ne_t (show Blk w b cu 46 from hcu) hb (by decide)
/-- One view more that was had. -/
theorem TK.had (h : TK L tb vr vc h0 m0 h1 m1 n L0 L1 hv Hs w) {k : Nat} (hk : k < 4) {v' : Value} {e : Ent} (hg : Grew w w5 (hv k) v') (ho : w5.ownsRow L 46 7 v' ((Hs k).length + 1) (flatV (Hs k ++ [e]))) :
    TK L tb vr vc h0 m0 h1 m1 n L0 L1 (fun j => if j = k then v' else hv j) (fun j => if j = k then Hs k ++ [e] else Hs j) (w5.setCell ⟨tb, 1 + k, none⟩ v') := by
  have hc := hg.chg
  obtain ⟨C, hb, c0, ck⟩ := h.tk
  obtain ⟨cur, hvb, p0, p1⟩ := h.vrow
  have tyk : ∀ (b : Nat) (D : Array Value) (U : TypeId), Blk w b D U → U ≠ 46 → ¬ (hv k).ownBlock = some b := fun b D U hB hU e => by
    obtain ⟨cu, hcu⟩ := ownsRow_type (h.rows k hk) e
    exact Blk.ne_t hB (show Blk w b cu 46 from hcu) hU rfl
  have mpk : ∀ (b : Nat) (LL : List Ent), HMap w b LL → ¬ (hv k).ownBlock = some b := fun b LL hm e => by
    obtain ⟨cu, hcu⟩ := ownsRow_type (h.rows k hk) e
    exact hm.ne_b (show Blk w b cu 46 from hcu) rfl
  have hb5 := hc.blk hb (tyk _ _ _ hb (by decide))
  have hv5 := hc.blk hvb (tyk _ _ _ hvb (by decide))
  have w0 := h.v0.keep hc (tyk _ _ _ h.v0.blk (by decide)) (mpk _ _ h.v0.map)
  have w1 := h.v1.keep hc (tyk _ _ _ h.v1.blk (by decide)) (mpk _ _ h.v1.map)
  have hs : Chg (fun b => b = tb) w5 (w5.setCell ⟨tb, 1 + k, none⟩ v') := ⟨rfl, rfl, rfl, by simp [World.setCell], fun j hj hn => Below.heap_setCell _ _ _ _ hn⟩
  obtain ⟨n1, n2, n3, n4, n5, n6⟩ := h.tbne
  refine ⟨⟨_, hb5.set (1 + k) v', ?_, fun j hj => ?_⟩, ⟨cur, hs.blk hv5 n1, p0, p1⟩, w0.keep hs n2 n4, w1.keep hs n3 n5, h.ne, fun j hj => ?_, fun i j hi hj hij b e1 e2 => ?_, h.lo, Nat.le_trans h.low (Nat.le_trans hc.size hs.size)⟩
  · rw [Array.getElem?_setIfInBounds_ne (by omega)]
    exact c0
  · have hsz : 1 + j < C.size := (Array.getElem?_eq_some_iff.1 (ck j hj)).1
    by_cases e1 : j = k
    · subst e1
      simp [Array.getElem?_setIfInBounds, hsz]
    · rw [Array.getElem?_setIfInBounds_ne (by omega), if_neg e1]
      exact ck j hj
  · by_cases e1 : j = k
    · subst e1
      simp only [if_true]
      have := ownsRow_same ho (w' := w5.setCell ⟨tb, 1 + j, none⟩ v') (fun g hg2 => by
        obtain ⟨cu, hcu⟩ := ownsRow_type ho hg2
        exact Below.heap_setCell _ _ _ _ (Blk.ne_t (show Blk w5 g cu 46 from hcu) hb5 (by decide)))
      simpa using this
    · simp only [if_neg e1]
      exact ownsRow_same (h.rows j hj) (fun g hg2 => (hs.block g (Nat.lt_of_lt_of_le (ownsRow_lt (h.rows j hj) hg2).2 hc.size) (n6 j hj g hg2)).trans (hc.block g (ownsRow_lt (h.rows j hj) hg2).2 (h.apart j k hj hk e1 g hg2)))
  · by_cases q1 : i = k
    · subst q1
      simp only [if_true] at e1
      rw [if_neg (fun e => hij e.symm)] at e2
      rcases hg.at' b e1 with h1 | h1
      · exact h.apart i j hi hj hij b h1 e2
      · have := (ownsRow_lt (h.rows j hj) e2).2
        omega
    · rw [if_neg q1] at e1
      by_cases q2 : j = k
      · subst q2
        simp only [if_true] at e2
        rcases hg.at' b e2 with h1 | h1
        · exact h.apart i j hi hj hij b e1 h1
        · have := (ownsRow_lt (h.rows i hi) e1).2
          omega
      · rw [if_neg q2] at e2
        exact h.apart i j hi hj hij b e1 e2
end
end Go.Proofs.Ytifgmefdlmjocaa
