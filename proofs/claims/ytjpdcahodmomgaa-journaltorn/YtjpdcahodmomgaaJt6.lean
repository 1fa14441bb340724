import Derived.Test.YtjpdcahodmomgaaJt5
import Derived.Test.YtjpdcahodmomgaaJt3
import Derived.Test.YtjpdcahodmomgaaJn18
namespace Go.Proofs.Ytjpdcahodmomgaa
open Go.RowKit Go.PlainAid
set_option linter.unusedVariables false
set_option linter.unusedSimpArgs false
/-- A tale in memory: its box, the row of what must be there, the bytes that it has copied. -/
def taleE (L tb p : Nat) (mv : Value) (lo hi : List (Value × List UInt8)) : List (Ent L) :=
  boxE L tb #[.pointer (some ⟨p, 0, none⟩), mv] 48 :: tailE L 38 mv (lo ++ hi).length ((lo ++ hi).map Prod.fst) :: hi.map (datE L)
def mustL (lo hi : List (Value × List UInt8)) : List (List UInt8) := (lo ++ hi).map Prod.snd
theorem mustL_len (lo hi : List (Value × List UInt8)) : (mustL lo hi).length = (lo ++ hi).length := List.length_map ..
theorem mustL_more (lo hi : List (Value × List UInt8)) (d : Value × List UInt8) : mustL lo (hi ++ [d]) = mustL lo hi ++ [d.2] := by
  unfold mustL
  rw [← List.append_assoc, List.map_append]; rfl
/-- Bytes that came in, which nobody writes. -/
def LoS (L : Nat) (w : World) (R : List (Ent L)) (lo : List (Value × List UInt8)) : Prop := ∀ W, Below L w W → Held R W → ∀ d ∈ lo, By W d.1 d.2
theorem LoS.more {L : Nat} {w w' : World} {R : List (Ent L)} {lo : List (Value × List UInt8)} (h : LoS L w R lo) (hb : Below L w w') : LoS L w' R lo := fun W hW hR => h W (hb.trans hW) hR
theorem perm_tale {α : Type} (A T R : List α) (d : α) : (A ++ (d :: (T ++ R))).Perm (T ++ (A ++ (d :: R))) := by
  have := (List.perm_append_comm (l₁ := A ++ [d]) (l₂ := T)).append_right R
  simpa [List.append_assoc] using this
section
variable {L tb p : Nat} {mv : Value} {lo hi : List (Value × List UInt8)} {Q R : List (Ent L)} {w : World}
theorem tale_box (h : Held (taleE L tb p mv lo hi ++ Q) w) : Blk w tb #[.pointer (some ⟨p, 0, none⟩), mv] 48 := (h.all (boxE L tb _ 48) (by unfold taleE; exact List.mem_append_left _ (List.mem_cons_self ..))).1
theorem tale_low (h : Held (taleE L tb p mv lo hi ++ Q) w) : L ≤ w.heap.size := Nat.le_trans (h.all (boxE L tb _ 48) (by unfold taleE; exact List.mem_append_left _ (List.mem_cons_self ..))).2 (Nat.le_of_lt (tale_box h).lt)
theorem tale_row (h : Held (taleE L tb p mv lo hi ++ Q) w) : Tail w L 38 mv (lo ++ hi).length ((lo ++ hi).map Prod.fst) := h.all (tailE L 38 mv (lo ++ hi).length ((lo ++ hi).map Prod.fst)) (by unfold taleE; exact List.mem_append_left _ (List.mem_cons_of_mem _ (List.mem_cons_self ..)))
theorem tale_dat (h : Held (taleE L tb p mv lo hi ++ Q) w) {d : Value × List UInt8} (hd : d ∈ hi) : By w d.1 d.2 := own_by (h.all (datE L d) (by unfold taleE; exact List.mem_append_left _ (List.mem_cons_of_mem _ (List.mem_cons_of_mem _ (List.mem_map_of_mem hd)))))
theorem By.form {v : Value} {bs : List UInt8} (h : By w v bs) : ∃ uo n uc, v = .slice uo n uc := by
  obtain ⟨ao, k, c, e, _⟩ := h
  exact ⟨ao, k, c, e⟩
theorem tale_rows (h : Held (taleE L tb p mv lo hi ++ Q) w) (hlo : ∀ d ∈ lo, By w d.1 d.2) : Rows w mv (mustL lo hi) := by
  obtain ⟨ao, cap, e, _, hr⟩ := tail_form (tale_row h)
  refine ⟨ao, cap, by rw [mustL_len]; exact e, fun i bs hi' => ?_⟩
  have hlt : i < (lo ++ hi).length := by
    have := (List.getElem?_eq_some_iff.1 hi').1
    rwa [mustL_len] at this
  obtain ⟨g, off, e2, hc⟩ := hr (by omega)
  have hd : (lo ++ hi)[i]? = some ((lo ++ hi)[i]) := List.getElem?_eq_getElem hlt
  generalize (lo ++ hi)[i] = d at hd
  have hbs : d.2 = bs := by
    unfold mustL at hi'
    rw [List.getElem?_map, hd] at hi'
    exact Option.some.inj hi'
  have hB : By w d.1 d.2 := by
    rcases List.mem_append.1 (List.mem_of_getElem? hd) with h1 | h1
    · exact hlo d h1
    · exact tale_dat h h1
  obtain ⟨uo, k, uc, e3⟩ := hB.form
  refine ⟨g, off, uo, k, uc, e2, ?_, by rw [← e3, ← hbs]; exact hB⟩
  rw [hc i d.1 (by rw [List.getElem?_map, hd]; rfl), e3]
/-- The tale's parts as an append wants them. -/
theorem tale_open (h : Held (taleE L tb p mv lo hi ++ Q) w) : Held (tailE L 38 mv (lo ++ hi).length ((lo ++ hi).map Prod.fst) :: boxE L tb #[.pointer (some ⟨p, 0, none⟩), mv] 48 :: (hi.map (datE L) ++ Q)) w := h.perm (List.Perm.swap ..)
theorem tale_shut {v8 v6 : Value} {bs : List UInt8} (h : Held (boxE L tb #[.pointer (some ⟨p, 0, none⟩), v8] 48 :: tailE L 38 v8 ((lo ++ hi).length + 1) ((lo ++ hi).map Prod.fst ++ [v6]) :: datE L (v6, bs) :: (hi.map (datE L) ++ Q)) w) : Held (taleE L tb p v8 lo (hi ++ [(v6, bs)]) ++ Q) w := by
  have e : taleE L tb p v8 lo (hi ++ [(v6, bs)]) ++ Q = boxE L tb #[.pointer (some ⟨p, 0, none⟩), v8] 48 :: tailE L 38 v8 ((lo ++ hi).length + 1) ((lo ++ hi).map Prod.fst ++ [v6]) :: (hi.map (datE L) ++ (datE L (v6, bs) :: Q)) := by
    unfold taleE
    rw [← List.append_assoc, List.map_append, List.map_append, List.length_append]
    simp
  rw [e]
  exact h.perm (List.Perm.cons _ (List.Perm.cons _ List.perm_middle.symm))
end
end Go.Proofs.Ytjpdcahodmomgaa
