import Derived.Test.YtdblbjcdnkiepaaMkd
namespace Go.Proofs.Ytdblbjcdnkiepaa
open Go.RowKit Go.PlainAid Go.MapKept
set_option linter.unusedVariables false
set_option linter.unusedSimpArgs false
/-- Rows of one type, no two in one block: a slice, its length, its cells. -/
abbrev RW := Value × Nat × List Value
structure RG (L0 T sz : Nat) (rs : List RW) (w : World) : Prop where
  all : ∀ x ∈ rs, w.ownsRow L0 T sz x.1 x.2.1 x.2.2
  dj : rs.Pairwise fun a b => ∀ g, a.1.ownBlock = some g → b.1.ownBlock ≠ some g
section
variable {L0 T sz : Nat} {rs : List RW} {w w' : World} {v v' : Value} {n n' : Nat} {xs xs' : List Value}
theorem RG.nil (L0 T sz : Nat) (w : World) : RG L0 T sz [] w := ⟨fun _ h => (by cases h), List.Pairwise.nil⟩
theorem RG.keep (h : RG L0 T sz rs w) (hk : ∀ x ∈ rs, ∀ g, x.1.ownBlock = some g → w'.heap[g]? = w.heap[g]?) : RG L0 T sz rs w' := ⟨fun x hx => ownsRow_same (h.all x hx) (hk x hx), h.dj⟩
theorem RG.lt (h : RG L0 T sz rs w) {x : RW} (hx : x ∈ rs) {g : Nat} (hg : x.1.ownBlock = some g) : L0 ≤ g ∧ g < w.heap.size := ownsRow_lt (h.all x hx) hg
theorem RG.more (h : RG L0 T sz rs w) (hb : Below w.heap.size w w') : RG L0 T sz rs w' := h.keep fun x hx g hg => hb.block g (h.lt hx hg).2
theorem RG.chg {A : Nat → Prop} (h : RG L0 T sz rs w) (hc : Chg A w w') (hn : ∀ x ∈ rs, ∀ g, x.1.ownBlock = some g → ¬ A g) : RG L0 T sz rs w' := h.keep fun x hx g hg => hc.block g (h.lt hx hg).2 (hn x hx g hg)
theorem RG.typ (h : RG L0 T sz rs w) {x : RW} (hx : x ∈ rs) {g : Nat} (hg : x.1.ownBlock = some g) : ∃ cu, Blk w g cu T := ownsRow_type (h.all x hx) hg
theorem RG.ne_t {b : Nat} {D : Array Value} {U : TypeId} (h : RG L0 T sz rs w) (hB : Blk w b D U) (hU : U ≠ T) {x : RW} (hx : x ∈ rs) {g : Nat} (hg : x.1.ownBlock = some g) : g ≠ b := fun e => by
  obtain ⟨cu, hcu⟩ := h.typ hx hg
  subst e
  exact hB.ne_t hcu hU rfl
theorem RG.drop {x : RW} (h : RG L0 T sz (x :: rs) w) : RG L0 T sz rs w := ⟨fun y hy => h.all y (List.mem_cons_of_mem _ hy), (List.pairwise_cons.1 h.dj).2⟩
theorem RG.head {x : RW} (h : RG L0 T sz (x :: rs) w) : w.ownsRow L0 T sz x.1 x.2.1 x.2.2 := h.all x (List.mem_cons_self ..)
theorem RG.fresh (h : RG L0 T sz rs w) (hb : Below w.heap.size w w') (hL : L0 ≤ w.heap.size) (ho : w'.ownsRow w.heap.size T sz v n xs) : RG L0 T sz ((v, n, xs) :: rs) w' := by
  have h1 := h.more hb
  refine ⟨fun x hx => ?_, List.pairwise_cons.2 ⟨fun y hy g hg hy2 => ?_, h1.dj⟩⟩
  · rcases List.mem_cons.1 hx with rfl | hx
    · exact ownsRow_mono ho hL
    · exact h1.all x hx
  · have := (ownsRow_lt ho hg).1
    have := (h.lt hy hy2).2
    omega
theorem RG.set (h : RG L0 T sz ((v, n, xs) :: rs) w) (hc : Chg (fun k => v.ownBlock = some k) w w') (ho : w'.ownsRow L0 T sz v n' xs') : RG L0 T sz ((v, n', xs') :: rs) w' := by
  obtain ⟨h1, h2⟩ := List.pairwise_cons.1 h.dj
  have h3 := h.drop.chg hc (fun x hx g hg e => h1 x hx g e hg)
  refine ⟨fun x hx => ?_, List.pairwise_cons.2 ⟨h1, h2⟩⟩
  rcases List.mem_cons.1 hx with rfl | hx
  · exact ho
  · exact h3.all x hx
theorem RG.perm {rs' : List RW} (h : RG L0 T sz rs w) (hp : rs.Perm rs') : RG L0 T sz rs' w := ⟨fun x hx => h.all x (hp.mem_iff.2 hx), (hp.pairwise_iff (fun hh g h1 h2 => hh g h2 h1)).1 h.dj⟩
end
/-- A slice that grows behind another one, in its block or apart. -/
structure GR (L0 T sz : Nat) (v : Value) (n : Nat) (xs : List Value) (rs : List RW) (x : Value) (m : Nat) (ys : List Value) (w : World) : Prop where
  rg : RG L0 T sz ((v, n, xs) :: rs) w
  row : w.ownsRow L0 T sz x m ys
  nm : n ≤ m
  ne : ∀ y ∈ rs, ∀ g, y.1.ownBlock = some g → x.ownBlock ≠ some g
theorem GR.start {L0 T sz : Nat} {v : Value} {n : Nat} {xs : List Value} {rs : List RW} {w : World} (h : RG L0 T sz ((v, n, xs) :: rs) w) : GR L0 T sz v n xs rs v n xs w := ⟨h, h.head, Nat.le_refl _, fun y hy g hg e => (List.pairwise_cons.1 h.dj).1 y hy g e hg⟩
theorem GR.app {L0 T sz : Nat} {v : Value} {n : Nat} {xs : List Value} {rs : List RW} {x : Value} {m : Nat} {ys : List Value} {w : World} (h : GR L0 T sz v n xs rs x m ys w) (t : TypeId) (z : Value) (bytes : Nat) (ht : Try.prog.underlying t = some (.slice T)) (hinfo : (Try.prog.info? T).map (fun i => (i.zero, i.size, i.bytes)) = some (some z, sz, bytes)) (hzz : z.cells.size = sz) (hs0 : 1 ≤ sz) (hb0 : 0 < bytes) (C : Array Value) (hC : C.size = sz) (hone : ∀ u ∈ C.toList, u.oneCell' = true) (hby2 : (m + 1) * bytes ≤ 140737488355328) (hL : L0 ≤ w.heap.size) :
    ∃ x' w', (∀ ty, (Builtin.append_ #[t, t] ty #[x, .slice (some ⟨w.heap.size, 0, none⟩) 1 1]).run Try.prog (w.alloc (.cells C T)) = .ok x' w') ∧ GR L0 T sz v n xs rs x' (m + 1) (ys ++ C.toList) w' ∧ Chg (fun k => x.ownBlock = some k) w w' ∧ (∀ g, x'.ownBlock = some g → x.ownBlock = some g ∨ w.heap.size ≤ g) := by
  have hown := h.row.alloc (.cells C T)
  obtain ⟨x', w', h1, h2, h3, h4⟩ := app_any t T z sz bytes ht hinfo hzz hs0 hb0 hown ⟨w.heap.size, 0, none⟩ 1 1 C.toList (by simp [hC]) (fun j u hu => by
    have hB : Blk (w.alloc (.cells C T)) w.heap.size C T := heap_alloc_new w _
    rw [addr_add, Nat.zero_add, hB.cell j]
    simpa using hu) hone hby2 (by rw [World.size_alloc]; omega) t
  have hg := h3.ofAlloc
  refine ⟨x', w', fun ty => h1, ⟨⟨fun y hy => ?_, h.rg.dj⟩, h2, by have := h.nm; omega, fun y hy g hy2 hx => ?_⟩, hg.chg, hg.at'⟩
  · by_cases hsame : y.1.ownBlock = x.ownBlock
    · rcases List.mem_cons.1 hy with rfl | hy
      · exact h4 _ _ _ _ h.nm hsame ((h.rg.head).alloc _)
      · cases hyo : y.1.ownBlock with
        | none =>
          refine ownsRow_same (h.rg.all y (List.mem_cons_of_mem _ hy)) (fun g hg => ?_)
          rw [hyo] at hg
          cases hg
        | some g => exact absurd (hsame.symm.trans hyo) (h.ne y hy g hyo)
    · refine ownsRow_same (h.rg.all y hy) (fun g hg' => hg.chg.block g (h.rg.lt hy hg').2 (fun e => hsame (hg'.trans e.symm)))
  · rcases hg.at' g hx with h5 | h5
    · exact h.ne y hy g hy2 h5
    · have := (h.rg.lt (List.mem_cons_of_mem _ hy) hy2).2
      omega
end Go.Proofs.Ytdblbjcdnkiepaa
