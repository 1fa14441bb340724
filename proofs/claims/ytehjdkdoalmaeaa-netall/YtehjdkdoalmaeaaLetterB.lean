import Derived.Test.YtehjdkdoalmaeaaLetter0
import Derived.Test.YtehjdkdoalmaeaaSends
namespace Go.Proofs.Ytehjdkdoalmaeaa
open Go.RowKit Go.PlainAid
set_option linter.unusedVariables false
set_option linter.unusedSimpArgs false
theorem tail_cut {w : World} {L e g o n c : Nat} {y : Value} {xs : List Value} (h : Tail w L e (.slice (some ⟨g, o, none⟩) (n + 1) c) (n + 1) (y :: xs)) : Tail w L e (.slice (some ⟨g, o + 1, none⟩) n (c - 1)) n xs := by
  have hl := h.1
  simp only [List.length_cons] at hl
  rcases h.2 with ⟨q, _⟩ | ⟨g', o', c', q, hg, ⟨cur, hc, hs⟩, hn, hall⟩
  · cases q
  · cases q
    refine ⟨by omega, Or.inr ⟨g, o + 1, c - 1, rfl, hg, ⟨cur, hc, by omega⟩, by omega, fun j u hj => ?_⟩⟩
    have := hall (j + 1) u (by simpa using hj)
    rwa [show o + (j + 1) = o + 1 + j from by omega] at this
section
variable {L pb hbn hbr room : Nat} {s s1 : PS} {D E : Array Value} {w W W2 : World}
/-- What was answered grows by a byte. -/
theorem LSt.grow (h : LSt L pb hbn hbr room s s1 D E w W) {x : Dat} {pre : List Dat} (hk : s1.ks = pre ++ [x]) {v v' : Value} {k : Nat} {c : Array Value} (hle : x.bs.length ≤ k) (hG : Grew (W.alloc (.cells c 5)) W2 v v')
    (hkeep : ∀ (d : Value) (n base' : Nat) (ys : List Value), n ≤ k → d.ownBlock = v.ownBlock → (W.alloc (.cells c 5)).ownsRow base' 5 1 d n ys → W2.ownsRow base' 5 1 d n ys)
    (hv : v.ownBlock = x.d.ownBlock ∨ ∀ j, v.ownBlock = some j → w.heap.size + 1 < j ∧ ¬ s1.has pb hbn hbr j) :
    LSt L pb hbn hbr room s s1 D E w W2 ∧ (v'.ownBlock = x.d.ownBlock ∨ ∀ j, v'.ownBlock = some j → w.heap.size + 1 < j ∧ ¬ s1.has pb hbn hbr j) := by
  have hsz := hG.g.size
  rw [World.size_alloc] at hsz
  have hg : ∀ j, j < W.heap.size → v.ownBlock ≠ some j → W2.heap[j]? = W.heap[j]? := fun j hj hne => (hG.g.block j (by rw [World.size_alloc]; omega) (fun e => hne e.symm)).trans (Below.heap_alloc _ _ _ hj)
  have hbr' := h.br.lt
  refine ⟨?_, ?_⟩
  · rcases hv with hv | hv
    · refine h.rekept hk (hkeep x.d x.bs.length L _ hle hv.symm ((h.inv.kept x (by rw [hk]; simp)).alloc _)) ⟨hG.g.os, hG.g.tape, hG.g.output, by omega⟩ (fun j hj hne => hg j hj (by rw [hv]; exact hne))
    · refine ⟨h.inv.keep fun j hj => hg j (h.inv.lt j hj) fun e => (hv j e).2 hj, ⟨hG.g.os.trans h.stp.os, hG.g.tape.trans h.stp.tape, hG.g.output.trans h.stp.output, by have := h.stp.size; omega, fun j hj hn => (hg j (by omega) fun e => by have := (hv j e).1; omega).trans (h.stp.block j hj hn), h.stp.has⟩, (hg _ h.bl.lt fun e => by have := (hv _ e).1; omega).trans h.bl, (hg _ h.br.lt fun e => by have := (hv _ e).1; omega).trans h.br, h.n1, h.n2⟩
  · cases hq : v'.ownBlock with
    | none => exact Or.inr fun j hj => by cases hj
    | some j =>
      rcases hG.at' j hq with q | q
      · rcases hv with hv | hv
        · exact Or.inl (by rw [← hv, q])
        · exact Or.inr fun i hi => by cases hi; exact hv j q
      · rw [World.size_alloc] at q
        refine Or.inr fun i hi => ?_
        cases hi
        exact ⟨by omega, fun r => by have := h.inv.lt j r; omega⟩
end
theorem full_add {ks : List Dat} {ms : List Int} {x : Dat} {m : Int} (hl : ms.length = ks.length) (hf : ∀ (i : Nat) (x : Dat) (m : Int), ks[i]? = some x → ms[i]? = some m → ∀ u ∈ x.bs, (u.toNat : Int) = m % 256) (hx : ∀ u ∈ x.bs, (u.toNat : Int) = m % 256) :
    ∀ (i : Nat) (y : Dat) (q : Int), (ks ++ [x])[i]? = some y → (ms ++ [m])[i]? = some q → ∀ u ∈ y.bs, (u.toNat : Int) = q % 256 := by
  intro i y q h1 h2
  by_cases hi : i < ks.length
  · rw [List.getElem?_append_left hi] at h1
    rw [List.getElem?_append_left (by omega)] at h2
    exact hf i y q h1 h2
  · rw [List.getElem?_append_right (by omega)] at h1
    rw [List.getElem?_append_right (by omega), hl] at h2
    have h0 : i - ks.length = 0 := by
      have := (List.getElem?_eq_some_iff.1 h1).1
      simp at this
      omega
    rw [h0] at h1 h2
    simp at h1 h2
    subst h1 h2
    exact hx
theorem full_tail {ks : List Dat} {ms : List Int} {y : Dat} {q : Int} (hf : ∀ (i : Nat) (x : Dat) (m : Int), (y :: ks)[i]? = some x → (q :: ms)[i]? = some m → ∀ u ∈ x.bs, (u.toNat : Int) = m % 256) :
    ∀ (i : Nat) (x : Dat) (m : Int), ks[i]? = some x → ms[i]? = some m → ∀ u ∈ x.bs, (u.toNat : Int) = m % 256 := fun i x m h1 h2 => hf (i + 1) x m (by simpa using h1) (by simpa using h2)
/-- What is written full so far. -/
def Marked (bs : List UInt8) (k : Nat) (m : Int) : Prop := ∀ (j : Nat) (u : UInt8), j < k → bs[j]? = some u → (u.toNat : Int) = m % 256
theorem Marked.zero (bs : List UInt8) (m : Int) : Marked bs 0 m := fun j u h => by omega
theorem Marked.step {bs : List UInt8} {k : Nat} {m : Int} (h : Marked bs k m) (u : UInt8) (hu : (u.toNat : Int) = m % 256) : Marked (bs.set k u) (k + 1) m := by
  intro j y hj hy
  by_cases e : j = k
  · subst e
    rw [List.getElem?_set_self' ] at hy
    cases hq : bs[j]? with
    | none => rw [hq] at hy; cases hy
    | some z => rw [hq] at hy; cases hy; exact hu
  · rw [List.getElem?_set_ne (fun e' => e e'.symm)] at hy
    exact h j y (by omega) hy
theorem Marked.all {bs : List UInt8} {k : Nat} {m : Int} (h : Marked bs k m) (hk : bs.length ≤ k) : ∀ u ∈ bs, (u.toNat : Int) = m % 256 := fun u hu => by
  obtain ⟨j, hj⟩ := List.getElem?_of_mem hu
  exact h j u (by have := (List.getElem?_eq_some_iff.1 hj).1; omega) hj
/-- The loop in which an answer grows. -/
def GRel (L pb hbn hbr room : Nat) (s s1 : PS) (D E : Array Value) (w : World) (x : Value) (n : Nat) (d : Value) (k : Nat) (wr : World) : Prop :=
  ∃ ys : List UInt8, wr.ownsRow L 5 1 d (n + k) (ys.map B) ∧ (d.ownBlock = x.ownBlock ∨ ∀ j, d.ownBlock = some j → w.heap.size + 1 < j ∧ ¬ s1.has pb hbn hbr j) ∧ LSt L pb hbn hbr room s s1 D E w wr
end Go.Proofs.Ytehjdkdoalmaeaa
