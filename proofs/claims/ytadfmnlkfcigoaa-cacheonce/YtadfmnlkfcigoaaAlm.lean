import Derived.Test.YtadfmnlkfcigoaaPe
namespace Go.Proofs.Ytadfmnlkfcigoaa
open Go.RowKit Go.PlainAid
set_option linter.unusedVariables false
set_option linter.unusedSimpArgs false
theorem perm_in {α : Type} {l1 l2 l3 : List α} {x : α} (hd : l3.Perm (x :: l2)) : (l1 ++ l3).Perm (x :: (l1 ++ l2)) := (hd.append_left l1).trans List.perm_middle
theorem perm_snoc {α β : Type} (f : α → β) (l : List α) (x : α) (rest : List β) : ((l ++ [x]).map f ++ rest).Perm (f x :: (l.map f ++ rest)) := by
  rw [List.map_append, List.append_assoc]
  exact List.perm_middle
theorem perm_snoc0 {α β : Type} (f : α → β) (l : List α) (x : α) : ((l ++ [x]).map f).Perm (f x :: l.map f) := by
  rw [List.map_append]
  exact List.perm_append_comm
/-- One element is put behind a list that may begin within its row. -/
theorem app_tail (t e : TypeId) (z : Value) (bytes : Nat) (ht : Try.prog.underlying t = some (.slice e)) (hinfo : (Try.prog.info? e).map (fun i => (i.zero, i.size, i.bytes)) = some (some z, 1, bytes)) (hzz : z.cells.size = 1) (hby : bytes ≤ 1000)
    {w : World} {L n : Nat} {v : Value} {xs : List Value} (hT : Tail w L e v n xs) (y : Value) (hy : y.oneCell' = true) (hn : n ≤ 100000) (hL : L ≤ w.heap.size) :
    ∃ g off cap w', (∀ ty, (Builtin.append_ #[t, t] ty #[v, .slice (some ⟨w.heap.size, 0, none⟩) 1 1]).run Try.prog (w.alloc (.cells #[y] e)) = .ok (.slice (some ⟨g, off, none⟩) (n + 1) cap) w') ∧ Tail w' L e (.slice (some ⟨g, off, none⟩) (n + 1) cap) (n + 1) (xs ++ [y]) ∧
      Chg (fun k => v.ownBlock = some k) w w' ∧ (∀ k, (Value.slice (some ⟨g, off, none⟩) (n + 1) cap).ownBlock = some k → v.ownBlock = some k ∨ w.heap.size ≤ k) := by
  obtain ⟨i0, hi, hz0, hz1, hz2⟩ := info_parts hinfo
  have hal := tail_alloc hT (.cells #[y] e)
  obtain ⟨g, off, cap, w', hr, h1, h2, h3, h4⟩ := run_append_tail (P := Try.prog) (w.alloc (.cells #[y] e)) t t L e i0 z bytes ht hi hz0 hz1 hz2 hzz v n xs hal ⟨w.heap.size, 0, none⟩ 1 1 [y] rfl (fun j u hu => by
    match j, hu with
    | 0, hu =>
      simp at hu
      subst hu
      rw [addr_add]
      exact cell_of_row _ _ 0 _ e (0, 0) (heap_alloc_new w _)
    | j + 1, hu => simp at hu) (fun u hu => by simp at hu; subst hu; exact hy) (by decide) (by unfold maxLen; omega) (by
      have : (n + 1) * bytes ≤ 100001 * 1000 := Nat.mul_le_mul (by omega) hby
      omega) (by rw [World.size_alloc]; omega) _ rfl
  refine ⟨g, off, cap, w', fun ty => hr, h1, ⟨h2.os, h2.tape, h2.output, by have := h2.size; rw [World.size_alloc] at this; omega, fun k hk hn => (h2.block k (by rw [World.size_alloc]; omega) (fun e => hn e.symm)).trans (Below.heap_alloc _ _ _ hk)⟩, fun k hk => ?_⟩
  have hk' : g = k := by simpa [Value.ownBlock] using hk
  subst hk'
  rcases h3 with h5 | h5
  · exact Or.inl h5
  · rw [World.size_alloc] at h5; exact Or.inr (by omega)
/-- The first of such a list is left out. -/
theorem tail_cut {w : World} {L e n : Nat} {ao : Option Addr} {cap : Nat} {u : Value} {xs : List Value} (h : Tail w L e (.slice ao (n + 1) cap) (n + 1) (u :: xs)) : ∃ g off, ao = some ⟨g, off, none⟩ ∧ Tail w L e (.slice (some ⟨g, off + 1, none⟩) n (cap - 1)) n xs := by
  rcases h.2 with ⟨h1, h2⟩ | ⟨g, off, c, h1, h2, ⟨cur, h3, h4⟩, h5, h6⟩
  · omega
  · cases h1
    refine ⟨g, off, rfl, by simpa using h.1, Or.inr ⟨g, off + 1, cap - 1, rfl, h2, ⟨cur, h3, by omega⟩, by omega, fun j v hv => ?_⟩⟩
    have := h6 (j + 1) v (by simpa using hv)
    rwa [show off + (j + 1) = off + 1 + j by omega] at this
theorem strictC : ∀ {ys : List (Int × Int)}, ys.Pairwise (fun a b => ltC b a = false) → ys.Nodup → ys.Pairwise (fun a b => ltC a b = true)
  | [], _, _ => List.Pairwise.nil
  | x :: t, h, hn => by
    rw [List.pairwise_cons] at h ⊢
    rw [List.nodup_cons] at hn
    refine ⟨fun b hb => ?_, strictC h.2 hn.2⟩
    have h1 := ltC_no.1 (h.1 b hb)
    have h2 : ¬ x = b := fun e => hn.1 (e ▸ hb)
    rw [ltC_iff]
    have h3 : ¬ (x.1 = b.1 ∧ x.2 = b.2) := fun h => h2 (Prod.ext h.1 h.2)
    omega
theorem row_src {w : World} {L e sz n cap : Nat} {ao : Option Addr} {xs : List Value} (h : w.ownsRow L e sz (.slice ao n cap) n xs) : (ao = none → n = 0 ∧ cap = 0) ∧ (∀ ad, ao = some ad → ∀ j u, xs[j]? = some u → w.cell? (ad.add j) = some u) := by
  rcases h.2 with ⟨h1, h2⟩ | ⟨g, c, cur, h1, _⟩
  · cases h1
    exact ⟨fun _ => ⟨rfl, rfl⟩, fun ad e => by cases e⟩
  · cases h1
    refine ⟨(fun e => by cases e), fun ad e j u hu => ?_⟩
    cases e
    exact h.cells (g := g) rfl j u hu
theorem info79 : (Try.prog.info? 79).map (fun i => (i.zero, i.size, i.bytes)) = some (some (.slice none 0 0), 1, 24) := by kernel_rfl
theorem NFull.putC {z : NZ} {ys : List (Int × Int)} (h : NFull z) (hl : ys.length ≤ 1000) (hn : z.lc.length + 1 ≤ 1000) (u u' d d' : Value) : NFull { z with vlc := u, lc := z.lc ++ [⟨d, ys⟩], vwc := u', wc := z.wc ++ [⟨d', ys⟩] } :=
  ⟨h.lc1, h.fc, h.n2, by simp; omega, (fun y hy => by
    simp only [List.mem_append, List.mem_singleton] at hy
    have old : y ∈ z.kc ++ (z.lc ++ z.wc) → y.cs.length ≤ 1000 := h.s2 y
    rcases hy with hy | (hy | rfl) | hy | rfl
    · exact old (by simp [hy])
    · exact old (by simp [hy])
    · exact hl
    · exact old (by simp [hy])
    · exact hl), by simp [h.wc1]⟩
def AP {L : Nat} (P : List (Ent L)) (own0 : Nat → Prop) (w0 : World) (es : List (Ent L)) (w : World) : Prop := AS own0 w0 (P ++ es) w
section
variable {L : Nat} {P : List (Ent L)} {own0 : Nat → Prop} {w0 : World} {es es' R : List (Ent L)} {e e' : Ent L} {w w' : World} {z : NZ}
theorem AP.perm (h : AP P own0 w0 es w) (hp : es.Perm es') : AP P own0 w0 es' w := AS.perm h (hp.append_left P)
theorem AP.swap (h : AP P own0 w0 (e :: R) w) (hc : Chg (fun k => e.bl k) w w') (hP : e'.P w') (hu : ∀ k, e'.bl k → e.bl k ∨ w.heap.size ≤ k) : AP P own0 w0 (e' :: R) w' := AS.mid h hc hP hu
theorem AP.drop (h : AP P own0 w0 (e :: R) w) : AP P own0 w0 R w := (AS.perm h List.perm_middle).drop
theorem AP.more (h : AP P own0 w0 es w) (hb : Below w.heap.size w w') : AP P own0 w0 es w' := AS.more h hb
theorem AP.fresh (h : AP P own0 w0 R w) (hb : Below w.heap.size w w') (hP : e.P w') (hn : ∀ k, e.bl k → w.heap.size ≤ k) : AP P own0 w0 (e :: R) w' := (AS.fresh h hb hP hn).perm List.perm_middle.symm
theorem AP.get (h : AP P own0 w0 es w) (he : e ∈ es) : e.P w := AS.get h (List.mem_append.2 (Or.inr he))
theorem AP.getP (h : AP P own0 w0 es w) (he : e ∈ P) : e.P w := AS.get h (List.mem_append.2 (Or.inl he))
theorem AP.chg (h : AP P own0 w0 es w) : Chg own0 w0 w := AS.chg h
/-- A cell of the pair changes. -/
theorem AP.set {pb : Nat} {C : Array Value} {T : TypeId} {Q : List (Ent L)} (h : AP (boxE L pb C T :: Q) own0 w0 es w) (j : Nat) (u : Value) : AP (boxE L pb (C.setIfInBounds j u) T :: Q) own0 w0 es (w.setCell ⟨pb, j, none⟩ u) := by
  have hb : Blk w pb C T ∧ L ≤ pb := AS.head h
  exact AS.swap (e' := boxE L pb (C.setIfInBounds j u) T) h (setCell_chg w pb j u) ⟨hb.1.set j u, hb.2⟩ (fun k hk => Or.inl hk)
theorem AP.cell {pb : Nat} {C : Array Value} {T : TypeId} {Q : List (Ent L)} (h : AP (boxE L pb C T :: Q) own0 w0 es w) (j : Nat) : w.cell? ⟨pb, j, none⟩ = C[j]? := by
  have hb : Blk w pb C T ∧ L ≤ pb := AS.head h
  exact hb.1.cell j
theorem AP.fz {pb : Nat} {C : Array Value} {T : TypeId} {Q : List (Ent L)} (h : AP (boxE L pb C T :: Q) own0 w0 es w) (j : Nat) : w.frozen? ⟨pb, j, none⟩ = false := by
  have hb : Blk w pb C T ∧ L ≤ pb := AS.head h
  exact hb.1.frozen j
theorem AP.listsC {x : DC} {u : Value} (h : AP P own0 w0 (dcE L x :: z.ents L) w) (hT : Tail w' L 79 u (z.kc.length + 1) (z.kc.map DC.d ++ [x.d])) (hc : Chg (fun k => z.vcl.ownBlock = some k) w w') (hu : ∀ k, u.ownBlock = some k → z.vcl.ownBlock = some k ∨ w.heap.size ≤ k) :
    AP P own0 w0 (NZ.ents L { z with vcl := u, kc := z.kc ++ [x] }) w' := by
  have h1 : AP P own0 w0 (z.e1 L :: ([dcE L x] ++ ([z.e3 L, z.e6 L, z.e7 L] ++ z.dats L))) w := h.perm (List.perm_middle (l₁ := [dcE L x]))
  have hd : (NZ.dats L { z with vcl := u, kc := z.kc ++ [x] }).Perm (dcE L x :: z.dats L) := perm_snoc _ _ _ _
  have h2 := h1.swap (e' := NZ.e1 L { z with vcl := u, kc := z.kc ++ [x] }) hc (show Tail w' L 79 u (z.kc ++ [x]).length ((z.kc ++ [x]).map DC.d) from by simpa using hT) hu
  refine h2.perm (List.Perm.symm ?_)
  refine (List.perm_middle (l₁ := [])).trans (List.Perm.cons _ ?_)
  exact (perm_in (l1 := []) (perm_in (l1 := [z.e3 L, z.e6 L, z.e7 L]) hd))
theorem AP.leftC {x : DC} {u : Value} (h : AP P own0 w0 (dcE L x :: z.ents L) w) (hT : Tail w' L 79 u (z.lc.length + 1) (z.lc.map DC.d ++ [x.d])) (hc : Chg (fun k => z.vlc.ownBlock = some k) w w') (hu : ∀ k, u.ownBlock = some k → z.vlc.ownBlock = some k ∨ w.heap.size ≤ k) :
    AP P own0 w0 (NZ.ents L { z with vlc := u, lc := z.lc ++ [x] }) w' := by
  have h1 : AP P own0 w0 (z.e6 L :: ([dcE L x, z.e1 L, z.e3 L] ++ ([z.e7 L] ++ z.dats L))) w := h.perm (List.perm_middle (l₁ := [dcE L x, z.e1 L, z.e3 L]))
  have hd : (NZ.dats L { z with vlc := u, lc := z.lc ++ [x] }).Perm (dcE L x :: z.dats L) := perm_in (perm_snoc _ _ _ _)
  have h2 := h1.swap (e' := NZ.e6 L { z with vlc := u, lc := z.lc ++ [x] }) hc (show Tail w' L 79 u (z.lc ++ [x]).length ((z.lc ++ [x]).map DC.d) from by simpa using hT) hu
  refine h2.perm (List.Perm.symm ?_)
  refine (List.perm_middle (l₁ := [z.e1 L, z.e3 L])).trans (List.Perm.cons _ ?_)
  exact (perm_in (l1 := [z.e1 L, z.e3 L]) (perm_in (l1 := [z.e7 L]) hd))
theorem AP.wereC {x : DC} {u : Value} (h : AP P own0 w0 (dcE L x :: z.ents L) w) (hT : Tail w' L 79 u (z.wc.length + 1) (z.wc.map DC.d ++ [x.d])) (hc : Chg (fun k => z.vwc.ownBlock = some k) w w') (hu : ∀ k, u.ownBlock = some k → z.vwc.ownBlock = some k ∨ w.heap.size ≤ k) :
    AP P own0 w0 (NZ.ents L { z with vwc := u, wc := z.wc ++ [x] }) w' := by
  have h1 : AP P own0 w0 (z.e7 L :: ([dcE L x, z.e1 L, z.e3 L, z.e6 L] ++ ([] ++ z.dats L))) w := h.perm (List.perm_middle (l₁ := [dcE L x, z.e1 L, z.e3 L, z.e6 L]))
  have hd : (NZ.dats L { z with vwc := u, wc := z.wc ++ [x] }).Perm (dcE L x :: z.dats L) := perm_in (perm_in (perm_snoc0 _ _ _))
  have h2 := h1.swap (e' := NZ.e7 L { z with vwc := u, wc := z.wc ++ [x] }) hc (show Tail w' L 79 u (z.wc ++ [x]).length ((z.wc ++ [x]).map DC.d) from by simpa using hT) hu
  refine h2.perm (List.Perm.symm ?_)
  refine (List.perm_middle (l₁ := [z.e1 L, z.e3 L, z.e6 L])).trans (List.Perm.cons _ ?_)
  exact (perm_in (l1 := [z.e1 L, z.e3 L, z.e6 L]) (perm_in (l1 := []) hd))
theorem AP.marksC {m : Int} {u : Value} (h : AP P own0 w0 (z.ents L) w) (hT : Tail w' L 3 u (z.ms.length + 1) (z.ms.map Iv ++ [Iv m])) (hc : Chg (fun k => z.vms.ownBlock = some k) w w') (hu : ∀ k, u.ownBlock = some k → z.vms.ownBlock = some k ∨ w.heap.size ≤ k) :
    AP P own0 w0 (NZ.ents L { z with vms := u, ms := z.ms ++ [m] }) w' := by
  have h1 : AP P own0 w0 (z.e3 L :: ([z.e1 L] ++ ([z.e6 L, z.e7 L] ++ z.dats L))) w := h.perm (List.perm_middle (l₁ := [z.e1 L]))
  have h2 := h1.swap (e' := NZ.e3 L { z with vms := u, ms := z.ms ++ [m] }) hc (show Tail w' L 3 u (z.ms ++ [m]).length ((z.ms ++ [m]).map Iv) from by simpa using hT) hu
  exact h2.perm (List.perm_middle (l₁ := [z.e1 L])).symm
theorem AP.cutMC {u : Value} (h : AP P own0 w0 (z.ents L) w) (hT : Tail w L 3 u z.ms.tail.length (z.ms.tail.map Iv)) (hu : u.ownBlock = z.vms.ownBlock) :
    AP P own0 w0 (NZ.ents L { z with vms := u, ms := z.ms.tail }) w := by
  have h1 : AP P own0 w0 (z.e3 L :: ([z.e1 L] ++ ([z.e6 L, z.e7 L] ++ z.dats L))) w := h.perm (List.perm_middle (l₁ := [z.e1 L]))
  have h2 := h1.swap (e' := NZ.e3 L { z with vms := u, ms := z.ms.tail }) (Chg.refl _ _) hT (fun k (hk : u.ownBlock = some k) => Or.inl (show z.vms.ownBlock = some k from by rw [← hu]; exact hk))
  exact h2.perm (List.perm_middle (l₁ := [z.e1 L])).symm
theorem AP.cutLC {u : Value} {x : DC} {ks : List DC} (hk : z.kc = x :: ks) (h : AP P own0 w0 (z.ents L) w) (hT : Tail w L 79 u ks.length (ks.map DC.d)) (hu : u.ownBlock = z.vcl.ownBlock) :
    AP P own0 w0 (NZ.ents L { z with vcl := u, kc := ks }) w := by
  have h1 : AP P own0 w0 (z.e1 L :: ([z.e3 L, z.e6 L, z.e7 L] ++ z.dats L)) w := h
  have h2 := h1.swap (e' := NZ.e1 L { z with vcl := u, kc := ks }) (Chg.refl _ _) hT (fun k (hk : u.ownBlock = some k) => Or.inl (show z.vcl.ownBlock = some k from by rw [← hu]; exact hk))
  have hd : (z.dats L).Perm (dcE L x :: NZ.dats L { z with vcl := u, kc := ks }) := by
    unfold NZ.dats
    rw [hk]
    exact List.Perm.refl _
  have h3 : AP P own0 w0 (dcE L x :: (NZ.e1 L { z with vcl := u, kc := ks } :: ([z.e3 L, z.e6 L, z.e7 L] ++ NZ.dats L { z with vcl := u, kc := ks }))) w := h2.perm ((List.Perm.cons _ (perm_in (l1 := [z.e3 L, z.e6 L, z.e7 L]) hd)).trans (List.Perm.swap _ _ _))
  exact h3.drop
theorem AP.writeC {x x' : DC} (h : AP P own0 w0 (dcE L x :: R) w) (hd : x'.d = x.d) (ho : w'.ownsRow L 32 2 x'.d x'.cs.length (flatC x'.cs)) (hc : Chg (fun k => x.d.ownBlock = some k) w w') : AP P own0 w0 (dcE L x' :: R) w' := h.swap (e' := dcE L x') hc ho (fun k (hk : x'.d.ownBlock = some k) => Or.inl (show x.d.ownBlock = some k from by rw [← hd]; exact hk))
end
end Go.Proofs.Ytadfmnlkfcigoaa
