import Derived.Test.YtjpdcahodmomgaaJt9
import Derived.Test.YtjpdcahodmomgaaJn13
import Derived.Test.YtjpdcahodmomgaaJn12
namespace Go.Proofs.Ytjpdcahodmomgaa
open Go.RowKit Go.PlainAid
set_option linter.unusedVariables false
set_option linter.unusedSimpArgs false
/-- What the tale knows of what may be there beside. -/
def MayO (L : Nat) (w : World) (R : List (Ent L)) (x : DV) (must : List (List UInt8)) (mayv : Value) (perh : Bool) : Prop :=
  Inv x.b x.n must ∨ (perh = true ∧ ∃ may : List UInt8, may.length ≤ 8192 ∧ (∀ W, Below L w W → Held R W → By W mayv may) ∧ Inv x.b x.n (must ++ [may]))
section
variable {L tb p s : Nat} {x : DV} {mv : Value} {lo hi : List (Value × List UInt8)} {R : List (Ent L)}
theorem MayO.more {w w' : World} {must : List (List UInt8)} {mayv : Value} {perh : Bool} (h : MayO L w R x must mayv perh) (hb : Below L w w') : MayO L w' R x must mayv perh := by
  rcases h with h | ⟨h1, may, h2, h3, h4⟩
  · exact Or.inl h
  · exact Or.inr ⟨h1, may, h2, fun W hW hR => h3 W (hb.trans hW) hR, h4⟩
theorem opened_any {mo : Option Addr} {mn mc : Nat} (perh : Bool) (w : World) (h : Held (dmE L p s x :: (taleE L tb p mv lo hi ++ R)) w) (hlo : LoS L w R lo) (hn : x.n ≤ 60) (hm : MayO L w R x (mustL lo hi) (.slice mo mn mc) perh) :
    Calls Try.prog 20 #[.pointer (some ⟨tb, 0, none⟩), .slice mo mn mc, .bool perh] w fun e w' => ∃ jb y mv' hi', e = .returned (.pointer (some ⟨jb, 0, none⟩)) ∧ OpO L tb p s x lo R w jb y mv' hi' w' := by
  rcases hm with h1 | ⟨rfl, may, h2, h3, h4⟩
  · exact opened_same (may := []) perh w h hlo hn h1
  · exact opened_more true w h hlo hn h3 h2 h4
theorem OpO.left {w w' : World} {jb : Nat} {y : JV} (h : OpO L tb p s x lo R w jb y mv hi w') : Held (dmE L p s x.on :: (taleE L tb p mv lo hi ++ R)) w' := Held.tailR h.h
/-- What a life leaves for the next opening. -/
theorem LfO.may {n0 W0 : Nat} {w w' : World} {ds : List (Value × List UInt8)} {pv : Value} {perh : Bool} (h : LfO L tb p s n0 W0 lo R w ds pv perh mv hi x w') (hd : ∀ d ∈ ds, ∀ W, Below L w W → Held R W → By W d.1 d.2) : MayO L w' R x (mustL lo hi) pv perh := by
  have hn := h.n
  subst hn
  rcases h.inv with ⟨h1, h2, h3⟩ | ⟨h1, d, h2, h3, h4, h5 | h5⟩
  · exact Or.inl h3
  · exact Or.inl h5
  · refine Or.inr ⟨h1, d.2, h4, fun W hW hR => ?_, h5⟩
    rw [h3]
    exact hd d h2 W (h.b.trans hW) hR
theorem LfO.form {n0 W0 : Nat} {w w' : World} {ds : List (Value × List UInt8)} {pv : Value} {perh : Bool} (h : LfO L tb p s n0 W0 lo R w ds pv perh mv hi x w') (hd : ∀ d ∈ ds, By w d.1 d.2) : ∃ mo mn mc, pv = .slice mo mn mc := by
  rcases h.inv with ⟨h1, h2, h3⟩ | ⟨h1, d, h2, h3, h4, h5⟩
  · exact ⟨_, _, _, h2⟩
  · rw [h3]; exact (hd d h2).form
end
/-- A life as it came in. -/
structure Lf where
  rv : Value
  ds : List (Value × List UInt8)
  af : Int
  tn : Int
  idle : Bool
def Lf.row (l : Lf) : List Value := [l.rv, .int .i64 l.af, .int .i64 l.tn, .bool l.idle]
def Lf.Ok (l : Lf) : Prop := l.af ≤ 9223372036854775807 ∧ l.ds.length ≤ 9223372036854775807 ∧ ∀ d ∈ l.ds, d.2.length ≤ 140737488351232
/-- Lives that came in. -/
def LivesV (w : World) (v : Value) (ls : List Lf) : Prop := ∃ ao c, v = .slice ao ls.length c ∧ ∀ i l, ls[i]? = some l → (∃ b off, ao = some ⟨b, off, none⟩ ∧ w.cell? ⟨b, off + i * 4, none⟩ = some l.rv ∧ w.cell? ⟨b, off + i * 4 + 1, none⟩ = some (.int .i64 l.af) ∧ w.cell? ⟨b, off + i * 4 + 2, none⟩ = some (.int .i64 l.tn) ∧ w.cell? ⟨b, off + i * 4 + 3, none⟩ = some (.bool l.idle)) ∧ RowsV w l.rv l.ds
theorem RowsV.more {w w' : World} {v : Value} {ds : List (Value × List UInt8)} (h : RowsV w v ds) (hb : Below w.heap.size w w') : RowsV w' v ds := by
  obtain ⟨ao, c, h1, h2⟩ := h
  refine ⟨ao, c, h1, fun i d hi => ?_⟩
  obtain ⟨⟨b, off, e1, e2⟩, e3⟩ := h2 i d hi
  exact ⟨⟨b, off, e1, (hb.cell (World.block_lt_of_cell? _ _ e2)).trans e2⟩, e3.keep hb⟩
theorem RowsV.by {w : World} {v : Value} {ds : List (Value × List UInt8)} (h : RowsV w v ds) {d : Value × List UInt8} (hd : d ∈ ds) : By w d.1 d.2 := by
  obtain ⟨ao, c, h1, h2⟩ := h
  obtain ⟨i, hi⟩ := List.getElem?_of_mem hd
  exact (h2 i d hi).2
theorem LivesV.more {w w' : World} {v : Value} {ls : List Lf} (h : LivesV w v ls) (hb : Below w.heap.size w w') : LivesV w' v ls := by
  obtain ⟨ao, c, h1, h2⟩ := h
  refine ⟨ao, c, h1, fun i l hi => ?_⟩
  obtain ⟨⟨b, off, e1, e2, e3, e4, e5⟩, e6⟩ := h2 i l hi
  have hc : ∀ {a : Addr} {u : Value}, w.cell? a = some u → w'.cell? a = some u := fun h => (hb.cell (World.block_lt_of_cell? _ _ h)).trans h
  exact ⟨⟨b, off, e1, hc e2, hc e3, hc e4, hc e5⟩, e6.more hb⟩
end Go.Proofs.Ytjpdcahodmomgaa
