import Derived.Test.YtifgmefdlmjocaaLt2
import Derived.Test.YtifgmefdlmjocaaBg
namespace Go.Proofs.Ytifgmefdlmjocaa
open Go.RowKit Go.PlainAid
set_option linter.unusedVariables false
set_option linter.unusedSimpArgs false
theorem bg_tk {w w2 : World} {tb n : Nat} {ps : List (Nat × Nat)} (h : BG w tb n n ps w2) (hn : 2 ≤ n) (htb : w.heap.size ≤ tb) : ∃ vr vc h0 m0 h1 m1, TK w.heap.size tb vr vc h0 m0 h1 m1 n [] [] (fun _ => .slice none 0 0) (fun _ => []) w2 := by
  have hl := h.len
  obtain ⟨p0, hp0⟩ : ∃ p, ps[0]? = some p := ⟨ps[0]'(by omega), List.getElem?_eq_getElem _⟩
  obtain ⟨p1, hp1⟩ : ∃ p, ps[1]? = some p := ⟨ps[1]'(by omega), List.getElem?_eq_getElem _⟩
  obtain ⟨v, hb, ho⟩ := h.tk
  obtain ⟨v0, l0, l0'⟩ := h.vs 0 p0 hp0
  obtain ⟨v1, l1, l1'⟩ := h.vs 1 p1 hp1
  rcases ho.2 with ⟨_, h0⟩ | ⟨g, cap, cur, rfl, hbg, hg, h4, h5, h6, h7⟩
  · omega
  have hcur : ∀ (i : Nat) (p : Nat × Nat), ps[i]? = some p → cur[i]? = some (Ptr p.1) := fun i p hp => by
    have hi := (List.getElem?_eq_some_iff.1 hp).1
    have e1 : (ps.map fun p => Ptr p.1)[i]? = some (Ptr p.1) := by rw [List.getElem?_map, hp]; rfl
    rw [← h7, List.getElem?_take_of_lt (by omega), Array.getElem?_toList] at e1
    exact e1
  refine ⟨g, cap, p0.1, p0.2, p1.1, p1.2, ⟨_, hb, by rfl, fun k hk => ?_⟩, ⟨cur, hg, hcur 0 p0 hp0, hcur 1 p1 hp1⟩, v0, v1, h.ne 0 1 p0 p1 hp0 hp1 (by decide), fun k hk => World.ownsRow_nil _ _ _ _, (fun j k _ _ _ b e => by cases e), ⟨htb, l0', l1'⟩, h.bel.size⟩
  have h4' : k = 0 ∨ k = 1 ∨ k = 2 ∨ k = 3 := by omega
  rcases h4' with rfl | rfl | rfl | rfl <;> rfl
/-- What is said, as it came in. -/
structure SayA where
  k : Int
  w : Int
  a : Int
  nm : Int
  d : Int
  u : Int
  h : Int
def i64 (x : Int) : Prop := -9223372036854775808 ≤ x ∧ x ≤ 9223372036854775807
structure SayAt (W : World) (b o : Nat) (s : SayA) : Prop where
  c0 : W.cell? ⟨b, o, none⟩ = some (.int .i64 s.k)
  c1 : W.cell? ⟨b, o + 1, none⟩ = some (.int .i64 s.w)
  c2 : W.cell? ⟨b, o + 2, none⟩ = some (.int .i64 s.a)
  c3 : W.cell? ⟨b, o + 3, none⟩ = some (.int .i64 s.nm)
  c4 : W.cell? ⟨b, o + 4, none⟩ = some (.int .i64 s.d)
  c5 : W.cell? ⟨b, o + 5, none⟩ = some (.int .i64 s.u)
  c6 : W.cell? ⟨b, o + 6, none⟩ = some (.int .i64 s.h)
  rg : i64 s.nm ∧ i64 s.d ∧ i64 s.u ∧ i64 s.h
theorem SayAt.keep {W W' : World} {b o : Nat} {s : SayA} (h : SayAt W b o s) (hb : W'.heap[b]? = W.heap[b]?) : SayAt W' b o s :=
  ⟨(World.cell?_of_block (w := W) hb).trans h.c0, (World.cell?_of_block (w := W) hb).trans h.c1, (World.cell?_of_block (w := W) hb).trans h.c2, (World.cell?_of_block (w := W) hb).trans h.c3, (World.cell?_of_block (w := W) hb).trans h.c4, (World.cell?_of_block (w := W) hb).trans h.c5, (World.cell?_of_block (w := W) hb).trans h.c6, h.rg⟩
/-- The talk behind k steps of replica 0. -/
def LRel (L tb vr vc h0 m0 h1 m1 n : Nat) (W : World) (k : Nat) (wr : World) : Prop := ∃ L0 hv Hs, TK L tb vr vc h0 m0 h1 m1 n L0 [] hv Hs wr ∧ LI k L0 ∧ (∀ j, j < 4 → (Hs j).length ≤ k) ∧ Below W.heap.size W wr
end Go.Proofs.Ytifgmefdlmjocaa
