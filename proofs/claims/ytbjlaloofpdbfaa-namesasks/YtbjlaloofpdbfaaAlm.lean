import Derived.Test.YtbjlaloofpdbfaaAst
namespace Go.Proofs.Ytbjlaloofpdbfaa
open Go.RowKit Go.PlainAid
set_option linter.unusedVariables false
set_option linter.unusedSimpArgs false
theorem perm_in {α : Type} {l1 l2 l3 : List α} {x : α} (hd : l3.Perm (x :: l2)) : (l1 ++ l3).Perm (x :: (l1 ++ l2)) := (hd.append_left l1).trans List.perm_middle
theorem perm_snoc {α β : Type} (f : α → β) (l : List α) (x : α) (rest : List β) : ((l ++ [x]).map f ++ rest).Perm (f x :: (l.map f ++ rest)) := by
  rw [List.map_append, List.append_assoc]
  exact List.perm_middle
theorem perm_snoc0 {α β : Type} (f : α → β) (l : List α) (x : α) : ((l ++ [x]).map f).Perm (f x :: l.map f) := by
  rw [List.map_append]
  exact List.perm_append_comm
/-- One element is put behind a list that may begin within its row. -/
theorem app_tail (t e : TypeId) (z : Value) (bytes : Nat) (ht : Try.prog.underlying t = some (.slice e)) (hinfo : (Try.prog.info? e).map (fun i => (i.zero, i.size, i.bytes)) = some (some z, 1, bytes)) (hzz : z.cells.size = 1) (hby : bytes ≤ 1000)
    {w : World} {L n : Nat} {v : Value} {xs : List Value} (hT : Tail w L e v n xs) (y : Value) (hy : y.oneCell' = true) (hn : n ≤ 100000) (hL : L ≤ w.heap.size) :
    ∃ g off cap w', (∀ ty, (Builtin.append_ #[t, t] ty #[v, .slice (some ⟨w.heap.size, 0, none⟩) 1 1]).run Try.prog (w.alloc (.cells #[y] e)) = .ok (.slice (some ⟨g, off, none⟩) (n + 1) cap) w') ∧ Tail w' L e (.slice (some ⟨g, off, none⟩) (n + 1) cap) (n + 1) (xs ++ [y]) ∧
      Chg (fun k => v.ownBlock = some k) w w' ∧ (∀ k, (Value.slice (some ⟨g, off, none⟩) (n + 1) cap).ownBlock = some k → v.ownBlock = some k ∨ w.heap.size ≤ k) := by
  obtain ⟨i0, hi, hz0, hz1, hz2⟩ := info_parts hinfo
  have hal := tail_alloc hT (.cells #[y] e)
  obtain ⟨g, off, cap, w', hr, h1, h2, h3, h4⟩ := run_append_tail (P := Try.prog) (w.alloc (.cells #[y] e)) t t L e i0 z bytes ht hi hz0 hz1 hz2 hzz v n xs hal ⟨w.heap.size, 0, none⟩ 1 1 [y] rfl (fun j u hu => by
    match j, hu with
    | 0, hu =>
      simp at hu
      subst hu
      rw [addr_add]
      exact cell_of_row _ _ 0 _ e (0, 0) (heap_alloc_new w _)
    | j + 1, hu => simp at hu) (fun u hu => by simp at hu; subst hu; exact hy) (by decide) (by unfold maxLen; omega) (by
      have : (n + 1) * bytes ≤ 100001 * 1000 := Nat.mul_le_mul (by omega) hby
      omega) (by rw [World.size_alloc]; omega) _ rfl
  refine ⟨g, off, cap, w', fun ty => hr, h1, ⟨h2.os, h2.tape, h2.output, by have := h2.size; rw [World.size_alloc] at this; omega, fun k hk hn => (h2.block k (by rw [World.size_alloc]; omega) (fun e => hn e.symm)).trans (Below.heap_alloc _ _ _ hk)⟩, fun k hk => ?_⟩
  have hk' : g = k := by simpa [Value.ownBlock] using hk
  subst hk'
  rcases h3 with h5 | h5
  · exact Or.inl h5
  · rw [World.size_alloc] at h5; exact Or.inr (by omega)
/-- The first of such a list is left out. -/
theorem tail_cut {w : World} {L e n : Nat} {ao : Option Addr} {cap : Nat} {u : Value} {xs : List Value} (h : Tail w L e (.slice ao (n + 1) cap) (n + 1) (u :: xs)) : ∃ g off, ao = some ⟨g, off, none⟩ ∧ Tail w L e (.slice (some ⟨g, off + 1, none⟩) n (cap - 1)) n xs := by
  rcases h.2 with ⟨h1, h2⟩ | ⟨g, off, c, h1, h2, ⟨cur, h3, h4⟩, h5, h6⟩
  · omega
  · cases h1
    refine ⟨g, off, rfl, by simpa using h.1, Or.inr ⟨g, off + 1, cap - 1, rfl, h2, ⟨cur, h3, by omega⟩, by omega, fun j v hv => ?_⟩⟩
    have := h6 (j + 1) v (by simpa using hv)
    rwa [show off + (j + 1) = off + 1 + j by omega] at this
section
variable {a : PA} {kl wl : Value} {KL : List (List UInt8)} {WT WL : List ((Int × Int) × OpA)} {own0 : Nat → Prop} {w0 w w' : World} {C : Array Value} {z : NZ}
theorem AS.listsS {x : DS} {u : Value} (h : AS a kl wl KL WT WL own0 w0 C (dsE a.S0 x :: z.ents a.S0) w) (hT : Tail w' a.S0 51 u (z.kt.length + 1) (z.kt.map DS.d ++ [x.d])) (hc : Chg (fun k => z.vtx.ownBlock = some k) w w') (hu : ∀ k, u.ownBlock = some k → z.vtx.ownBlock = some k ∨ w.heap.size ≤ k) :
    AS a kl wl KL WT WL own0 w0 C (NZ.ents a.S0 { z with vtx := u, kt := z.kt ++ [x] }) w' := by
  have h1 : AS a kl wl KL WT WL own0 w0 C (z.e0 a.S0 :: ([dsE a.S0 x] ++ ([z.e1 a.S0, z.e2 a.S0, z.e3 a.S0, z.e4 a.S0, z.e5 a.S0, z.e6 a.S0, z.e7 a.S0] ++ z.dats a.S0))) w := h.perm (List.perm_middle (l₁ := [dsE a.S0 x]))
  have hd : (NZ.dats a.S0 { z with vtx := u, kt := z.kt ++ [x] }).Perm (dsE a.S0 x :: z.dats a.S0) := perm_snoc _ _ _ _
  have h2 := h1.swap (e' := NZ.e0 a.S0 { z with vtx := u, kt := z.kt ++ [x] }) hc (show Tail w' a.S0 51 u (z.kt ++ [x]).length ((z.kt ++ [x]).map DS.d) from by simpa using hT) hu
  refine h2.perm (List.Perm.symm ?_)
  refine (List.perm_middle (l₁ := [])).trans (List.Perm.cons _ ?_)
  exact (perm_in (l1 := []) (perm_in (l1 := [z.e1 a.S0, z.e2 a.S0, z.e3 a.S0, z.e4 a.S0, z.e5 a.S0, z.e6 a.S0, z.e7 a.S0]) hd))
theorem AS.leftS {x : DS} {u : Value} (h : AS a kl wl KL WT WL own0 w0 C (dsE a.S0 x :: z.ents a.S0) w) (hT : Tail w' a.S0 51 u (z.lt.length + 1) (z.lt.map DS.d ++ [x.d])) (hc : Chg (fun k => z.vlt.ownBlock = some k) w w') (hu : ∀ k, u.ownBlock = some k → z.vlt.ownBlock = some k ∨ w.heap.size ≤ k) :
    AS a kl wl KL WT WL own0 w0 C (NZ.ents a.S0 { z with vlt := u, lt := z.lt ++ [x] }) w' := by
  have h1 : AS a kl wl KL WT WL own0 w0 C (z.e4 a.S0 :: ([dsE a.S0 x, z.e0 a.S0, z.e1 a.S0, z.e2 a.S0, z.e3 a.S0] ++ ([z.e5 a.S0, z.e6 a.S0, z.e7 a.S0] ++ z.dats a.S0))) w := h.perm (List.perm_middle (l₁ := [dsE a.S0 x, z.e0 a.S0, z.e1 a.S0, z.e2 a.S0, z.e3 a.S0]))
  have hd : (NZ.dats a.S0 { z with vlt := u, lt := z.lt ++ [x] }).Perm (dsE a.S0 x :: z.dats a.S0) := perm_in (perm_snoc _ _ _ _)
  have h2 := h1.swap (e' := NZ.e4 a.S0 { z with vlt := u, lt := z.lt ++ [x] }) hc (show Tail w' a.S0 51 u (z.lt ++ [x]).length ((z.lt ++ [x]).map DS.d) from by simpa using hT) hu
  refine h2.perm (List.Perm.symm ?_)
  refine (List.perm_middle (l₁ := [z.e0 a.S0, z.e1 a.S0, z.e2 a.S0, z.e3 a.S0])).trans (List.Perm.cons _ ?_)
  exact (perm_in (l1 := [z.e0 a.S0, z.e1 a.S0, z.e2 a.S0, z.e3 a.S0]) (perm_in (l1 := [z.e5 a.S0, z.e6 a.S0, z.e7 a.S0]) hd))
theorem AS.wereS {x : DS} {u : Value} (h : AS a kl wl KL WT WL own0 w0 C (dsE a.S0 x :: z.ents a.S0) w) (hT : Tail w' a.S0 51 u (z.wt.length + 1) (z.wt.map DS.d ++ [x.d])) (hc : Chg (fun k => z.vwt.ownBlock = some k) w w') (hu : ∀ k, u.ownBlock = some k → z.vwt.ownBlock = some k ∨ w.heap.size ≤ k) :
    AS a kl wl KL WT WL own0 w0 C (NZ.ents a.S0 { z with vwt := u, wt := z.wt ++ [x] }) w' := by
  have h1 : AS a kl wl KL WT WL own0 w0 C (z.e5 a.S0 :: ([dsE a.S0 x, z.e0 a.S0, z.e1 a.S0, z.e2 a.S0, z.e3 a.S0, z.e4 a.S0] ++ ([z.e6 a.S0, z.e7 a.S0] ++ z.dats a.S0))) w := h.perm (List.perm_middle (l₁ := [dsE a.S0 x, z.e0 a.S0, z.e1 a.S0, z.e2 a.S0, z.e3 a.S0, z.e4 a.S0]))
  have hd : (NZ.dats a.S0 { z with vwt := u, wt := z.wt ++ [x] }).Perm (dsE a.S0 x :: z.dats a.S0) := perm_in (perm_in (perm_snoc _ _ _ _))
  have h2 := h1.swap (e' := NZ.e5 a.S0 { z with vwt := u, wt := z.wt ++ [x] }) hc (show Tail w' a.S0 51 u (z.wt ++ [x]).length ((z.wt ++ [x]).map DS.d) from by simpa using hT) hu
  refine h2.perm (List.Perm.symm ?_)
  refine (List.perm_middle (l₁ := [z.e0 a.S0, z.e1 a.S0, z.e2 a.S0, z.e3 a.S0, z.e4 a.S0])).trans (List.Perm.cons _ ?_)
  exact (perm_in (l1 := [z.e0 a.S0, z.e1 a.S0, z.e2 a.S0, z.e3 a.S0, z.e4 a.S0]) (perm_in (l1 := [z.e6 a.S0, z.e7 a.S0]) hd))
theorem AS.marksS {m : List UInt8} {u : Value} (h : AS a kl wl KL WT WL own0 w0 C (z.ents a.S0) w) (hT : Tail w' a.S0 9 u (z.tl.length + 1) (flatS z.tl ++ [Str m])) (hc : Chg (fun k => z.vtl.ownBlock = some k) w w') (hu : ∀ k, u.ownBlock = some k → z.vtl.ownBlock = some k ∨ w.heap.size ≤ k) :
    AS a kl wl KL WT WL own0 w0 C (NZ.ents a.S0 { z with vtl := u, tl := z.tl ++ [m] }) w' := by
  have h1 : AS a kl wl KL WT WL own0 w0 C (z.e2 a.S0 :: ([z.e0 a.S0, z.e1 a.S0] ++ ([z.e3 a.S0, z.e4 a.S0, z.e5 a.S0, z.e6 a.S0, z.e7 a.S0] ++ z.dats a.S0))) w := h.perm (List.perm_middle (l₁ := [z.e0 a.S0, z.e1 a.S0]))
  have h2 := h1.swap (e' := NZ.e2 a.S0 { z with vtl := u, tl := z.tl ++ [m] }) hc (show Tail w' a.S0 9 u (z.tl ++ [m]).length (flatS (z.tl ++ [m])) from by simpa [flatS] using hT) hu
  exact h2.perm (List.perm_middle (l₁ := [z.e0 a.S0, z.e1 a.S0])).symm
theorem AS.cutMS {u : Value} (h : AS a kl wl KL WT WL own0 w0 C (z.ents a.S0) w) (hT : Tail w a.S0 9 u z.tl.tail.length (flatS z.tl.tail)) (hu : u.ownBlock = z.vtl.ownBlock) :
    AS a kl wl KL WT WL own0 w0 C (NZ.ents a.S0 { z with vtl := u, tl := z.tl.tail }) w := by
  have h1 : AS a kl wl KL WT WL own0 w0 C (z.e2 a.S0 :: ([z.e0 a.S0, z.e1 a.S0] ++ ([z.e3 a.S0, z.e4 a.S0, z.e5 a.S0, z.e6 a.S0, z.e7 a.S0] ++ z.dats a.S0))) w := h.perm (List.perm_middle (l₁ := [z.e0 a.S0, z.e1 a.S0]))
  have h2 := h1.swap (e' := NZ.e2 a.S0 { z with vtl := u, tl := z.tl.tail }) (Chg.refl _ _) hT (fun k (hk : u.ownBlock = some k) => Or.inl (show z.vtl.ownBlock = some k from by rw [← hu]; exact hk))
  exact h2.perm (List.perm_middle (l₁ := [z.e0 a.S0, z.e1 a.S0])).symm
theorem AS.cutLS {u : Value} {x : DS} {ks : List DS} (hk : z.kt = x :: ks) (h : AS a kl wl KL WT WL own0 w0 C (z.ents a.S0) w) (hT : Tail w a.S0 51 u ks.length (ks.map DS.d)) (hu : u.ownBlock = z.vtx.ownBlock) :
    AS a kl wl KL WT WL own0 w0 C (NZ.ents a.S0 { z with vtx := u, kt := ks }) w := by
  have h1 : AS a kl wl KL WT WL own0 w0 C (z.e0 a.S0 :: ([] ++ ([z.e1 a.S0, z.e2 a.S0, z.e3 a.S0, z.e4 a.S0, z.e5 a.S0, z.e6 a.S0, z.e7 a.S0] ++ z.dats a.S0))) w := h.perm (List.perm_middle (l₁ := []))
  have h2 := h1.swap (e' := NZ.e0 a.S0 { z with vtx := u, kt := ks }) (Chg.refl _ _) hT (fun k (hk : u.ownBlock = some k) => Or.inl (show z.vtx.ownBlock = some k from by rw [← hu]; exact hk))
  have hd : (z.dats a.S0).Perm (dsE a.S0 x :: NZ.dats a.S0 { z with vtx := u, kt := ks }) := by
    unfold NZ.dats
    rw [hk]
    exact List.Perm.refl _
  have h3 : AS a kl wl KL WT WL own0 w0 C (dsE a.S0 x :: (NZ.e0 a.S0 { z with vtx := u, kt := ks } :: ([] ++ ([z.e1 a.S0, z.e2 a.S0, z.e3 a.S0, z.e4 a.S0, z.e5 a.S0, z.e6 a.S0, z.e7 a.S0] ++ NZ.dats a.S0 { z with vtx := u, kt := ks })))) w := h2.perm ((List.Perm.cons _ (perm_in (l1 := []) (perm_in (l1 := [z.e1 a.S0, z.e2 a.S0, z.e3 a.S0, z.e4 a.S0, z.e5 a.S0, z.e6 a.S0, z.e7 a.S0]) hd))).trans (List.Perm.swap _ _ _))
  exact h3.drop.perm (List.perm_middle (l₁ := [])).symm
/-- The row under way is written. -/
theorem AS.writeS {x x' : DS} {R : List (Ent a.S0)} (h : AS a kl wl KL WT WL own0 w0 C (dsE a.S0 x :: R) w) (hd : x'.d = x.d) (ho : w'.ownsRow a.S0 9 1 x'.d x'.ss.length (flatS x'.ss)) (hc : Chg (fun k => x.d.ownBlock = some k) w w') : AS a kl wl KL WT WL own0 w0 C (dsE a.S0 x' :: R) w' := h.swap (e' := dsE a.S0 x') hc ho (fun k (hk : x'.d.ownBlock = some k) => Or.inl (show x.d.ownBlock = some k from by rw [← hd]; exact hk))
structure MoS (a : PA) (kl wl : Value) (w0 w : World) (x : DS) (R : List (Ent a.S0)) (mv : Value) (n : Nat) : Prop where
  own : ∃ zs, w.ownsRow a.S0 9 1 mv n zs
  loc : ∀ k, mv.ownBlock = some k → x.d.ownBlock = some k ∨ (w0.heap.size ≤ k ∧ ¬ has (dsE a.S0 x :: R) k ∧ ¬ RA a.rb kl wl k)
/-- What grows out of the row under way. -/
theorem AS.growS {x : DS} {R : List (Ent a.S0)} {mv mv' : Value} {n m : Nat} {zs : List Value} (h : AS a kl wl KL WT WL own0 w0 C (dsE a.S0 x :: R) w) (hM : MoS a kl wl w0 w x R mv n) (hn : x.ss.length ≤ n) (ho : w'.ownsRow a.S0 9 1 mv' m zs) (hg : Grew w w' mv mv') (hin : ∀ (d : Value) (n' base' : Nat) (zs : List Value), n' ≤ n → d.ownBlock = mv.ownBlock → w.ownsRow base' 9 1 d n' zs → w'.ownsRow base' 9 1 d n' zs) :
    AS a kl wl KL WT WL own0 w0 C (dsE a.S0 x :: R) w' ∧ MoS a kl wl w0 w' x R mv' m := by
  have hx : w.ownsRow a.S0 9 1 x.d x.ss.length (flatS x.ss) := h.h.all (dsE a.S0 x) (List.mem_cons_self ..)
  have key : AS a kl wl KL WT WL own0 w0 C (dsE a.S0 x :: R) w' := by
    cases hb : mv.ownBlock with
    | none =>
      refine h.more ⟨hg.g.os, hg.g.tape, hg.g.output, hg.g.size, fun k hk => hg.g.block k hk (by rw [hb]; simp)⟩
    | some j =>
      rcases hM.loc j hb with h1 | h1
      · exact h.writeS (x' := x) rfl (hin x.d x.ss.length a.S0 _ hn (h1.trans hb.symm) hx) (hg.chg.mono (fun k _ e => by rw [hb] at e; exact h1.trans e))
      · obtain ⟨zs0, h0⟩ := hM.own
        obtain ⟨cu, hcu⟩ := ownsRow_type h0 hb
        have hB : Blk w j cu 9 := hcu
        have hc : Chg (fun k => k = j) w w' := hg.chg.mono (fun k _ e => by rw [hb] at e; cases e; rfl)
        refine ⟨hc.blk h.p (Blk.ne_t h.p hB (by decide)), h.t.keep hc (Blk.ne_t h.t.blk hB (by decide)) (fun e => h.t.hm.ne_b hB e.symm) (fun e => h.t.wm.ne_b hB e.symm), h.r.keep hc (fun b hb e => h1.2.2 (e ▸ hb)), h.h.chg hc (fun k hk e => h1.2.1 (e ▸ hk)), h.ra, h.chg.trans hc (fun k hk e => by subst e; omega), h.new, h.op⟩
  refine ⟨key, ⟨_, ho⟩, fun k hk => ?_⟩
  rcases hg.at' k hk with h1 | h1
  · exact hM.loc k h1
  · exact Or.inr ⟨Nat.le_trans h.chg.size h1, fun e => by have := (h.h.typ e).2.1; omega, fun e => by have := h.low e; omega⟩
theorem AS.listsC {x : DC} {u : Value} (h : AS a kl wl KL WT WL own0 w0 C (dcE a.S0 x :: z.ents a.S0) w) (hT : Tail w' a.S0 45 u (z.kc.length + 1) (z.kc.map DC.d ++ [x.d])) (hc : Chg (fun k => z.vcl.ownBlock = some k) w w') (hu : ∀ k, u.ownBlock = some k → z.vcl.ownBlock = some k ∨ w.heap.size ≤ k) :
    AS a kl wl KL WT WL own0 w0 C (NZ.ents a.S0 { z with vcl := u, kc := z.kc ++ [x] }) w' := by
  have h1 : AS a kl wl KL WT WL own0 w0 C (z.e1 a.S0 :: ([dcE a.S0 x, z.e0 a.S0] ++ ([z.e2 a.S0, z.e3 a.S0, z.e4 a.S0, z.e5 a.S0, z.e6 a.S0, z.e7 a.S0] ++ z.dats a.S0))) w := h.perm (List.perm_middle (l₁ := [dcE a.S0 x, z.e0 a.S0]))
  have hd : (NZ.dats a.S0 { z with vcl := u, kc := z.kc ++ [x] }).Perm (dcE a.S0 x :: z.dats a.S0) := perm_in (perm_in (perm_in (perm_snoc _ _ _ _)))
  have h2 := h1.swap (e' := NZ.e1 a.S0 { z with vcl := u, kc := z.kc ++ [x] }) hc (show Tail w' a.S0 45 u (z.kc ++ [x]).length ((z.kc ++ [x]).map DC.d) from by simpa using hT) hu
  refine h2.perm (List.Perm.symm ?_)
  refine (List.perm_middle (l₁ := [z.e0 a.S0])).trans (List.Perm.cons _ ?_)
  exact (perm_in (l1 := [z.e0 a.S0]) (perm_in (l1 := [z.e2 a.S0, z.e3 a.S0, z.e4 a.S0, z.e5 a.S0, z.e6 a.S0, z.e7 a.S0]) hd))
theorem AS.leftC {x : DC} {u : Value} (h : AS a kl wl KL WT WL own0 w0 C (dcE a.S0 x :: z.ents a.S0) w) (hT : Tail w' a.S0 45 u (z.lc.length + 1) (z.lc.map DC.d ++ [x.d])) (hc : Chg (fun k => z.vlc.ownBlock = some k) w w') (hu : ∀ k, u.ownBlock = some k → z.vlc.ownBlock = some k ∨ w.heap.size ≤ k) :
    AS a kl wl KL WT WL own0 w0 C (NZ.ents a.S0 { z with vlc := u, lc := z.lc ++ [x] }) w' := by
  have h1 : AS a kl wl KL WT WL own0 w0 C (z.e6 a.S0 :: ([dcE a.S0 x, z.e0 a.S0, z.e1 a.S0, z.e2 a.S0, z.e3 a.S0, z.e4 a.S0, z.e5 a.S0] ++ ([z.e7 a.S0] ++ z.dats a.S0))) w := h.perm (List.perm_middle (l₁ := [dcE a.S0 x, z.e0 a.S0, z.e1 a.S0, z.e2 a.S0, z.e3 a.S0, z.e4 a.S0, z.e5 a.S0]))
  have hd : (NZ.dats a.S0 { z with vlc := u, lc := z.lc ++ [x] }).Perm (dcE a.S0 x :: z.dats a.S0) := perm_in (perm_in (perm_in (perm_in (perm_snoc _ _ _ _))))
  have h2 := h1.swap (e' := NZ.e6 a.S0 { z with vlc := u, lc := z.lc ++ [x] }) hc (show Tail w' a.S0 45 u (z.lc ++ [x]).length ((z.lc ++ [x]).map DC.d) from by simpa using hT) hu
  refine h2.perm (List.Perm.symm ?_)
  refine (List.perm_middle (l₁ := [z.e0 a.S0, z.e1 a.S0, z.e2 a.S0, z.e3 a.S0, z.e4 a.S0, z.e5 a.S0])).trans (List.Perm.cons _ ?_)
  exact (perm_in (l1 := [z.e0 a.S0, z.e1 a.S0, z.e2 a.S0, z.e3 a.S0, z.e4 a.S0, z.e5 a.S0]) (perm_in (l1 := [z.e7 a.S0]) hd))
theorem AS.wereC {x : DC} {u : Value} (h : AS a kl wl KL WT WL own0 w0 C (dcE a.S0 x :: z.ents a.S0) w) (hT : Tail w' a.S0 45 u (z.wc.length + 1) (z.wc.map DC.d ++ [x.d])) (hc : Chg (fun k => z.vwc.ownBlock = some k) w w') (hu : ∀ k, u.ownBlock = some k → z.vwc.ownBlock = some k ∨ w.heap.size ≤ k) :
    AS a kl wl KL WT WL own0 w0 C (NZ.ents a.S0 { z with vwc := u, wc := z.wc ++ [x] }) w' := by
  have h1 : AS a kl wl KL WT WL own0 w0 C (z.e7 a.S0 :: ([dcE a.S0 x, z.e0 a.S0, z.e1 a.S0, z.e2 a.S0, z.e3 a.S0, z.e4 a.S0, z.e5 a.S0, z.e6 a.S0] ++ ([] ++ z.dats a.S0))) w := h.perm (List.perm_middle (l₁ := [dcE a.S0 x, z.e0 a.S0, z.e1 a.S0, z.e2 a.S0, z.e3 a.S0, z.e4 a.S0, z.e5 a.S0, z.e6 a.S0]))
  have hd : (NZ.dats a.S0 { z with vwc := u, wc := z.wc ++ [x] }).Perm (dcE a.S0 x :: z.dats a.S0) := perm_in (perm_in (perm_in (perm_in (perm_in (perm_snoc0 _ _ _)))))
  have h2 := h1.swap (e' := NZ.e7 a.S0 { z with vwc := u, wc := z.wc ++ [x] }) hc (show Tail w' a.S0 45 u (z.wc ++ [x]).length ((z.wc ++ [x]).map DC.d) from by simpa using hT) hu
  refine h2.perm (List.Perm.symm ?_)
  refine (List.perm_middle (l₁ := [z.e0 a.S0, z.e1 a.S0, z.e2 a.S0, z.e3 a.S0, z.e4 a.S0, z.e5 a.S0, z.e6 a.S0])).trans (List.Perm.cons _ ?_)
  exact (perm_in (l1 := [z.e0 a.S0, z.e1 a.S0, z.e2 a.S0, z.e3 a.S0, z.e4 a.S0, z.e5 a.S0, z.e6 a.S0]) (perm_in (l1 := []) hd))
theorem AS.marksC {m : Int} {u : Value} (h : AS a kl wl KL WT WL own0 w0 C (z.ents a.S0) w) (hT : Tail w' a.S0 3 u (z.ms.length + 1) (z.ms.map I ++ [I m])) (hc : Chg (fun k => z.vms.ownBlock = some k) w w') (hu : ∀ k, u.ownBlock = some k → z.vms.ownBlock = some k ∨ w.heap.size ≤ k) :
    AS a kl wl KL WT WL own0 w0 C (NZ.ents a.S0 { z with vms := u, ms := z.ms ++ [m] }) w' := by
  have h1 : AS a kl wl KL WT WL own0 w0 C (z.e3 a.S0 :: ([z.e0 a.S0, z.e1 a.S0, z.e2 a.S0] ++ ([z.e4 a.S0, z.e5 a.S0, z.e6 a.S0, z.e7 a.S0] ++ z.dats a.S0))) w := h.perm (List.perm_middle (l₁ := [z.e0 a.S0, z.e1 a.S0, z.e2 a.S0]))
  have h2 := h1.swap (e' := NZ.e3 a.S0 { z with vms := u, ms := z.ms ++ [m] }) hc (show Tail w' a.S0 3 u (z.ms ++ [m]).length ((z.ms ++ [m]).map I) from by simpa [flatS] using hT) hu
  exact h2.perm (List.perm_middle (l₁ := [z.e0 a.S0, z.e1 a.S0, z.e2 a.S0])).symm
theorem AS.cutMC {u : Value} (h : AS a kl wl KL WT WL own0 w0 C (z.ents a.S0) w) (hT : Tail w a.S0 3 u z.ms.tail.length (z.ms.tail.map I)) (hu : u.ownBlock = z.vms.ownBlock) :
    AS a kl wl KL WT WL own0 w0 C (NZ.ents a.S0 { z with vms := u, ms := z.ms.tail }) w := by
  have h1 : AS a kl wl KL WT WL own0 w0 C (z.e3 a.S0 :: ([z.e0 a.S0, z.e1 a.S0, z.e2 a.S0] ++ ([z.e4 a.S0, z.e5 a.S0, z.e6 a.S0, z.e7 a.S0] ++ z.dats a.S0))) w := h.perm (List.perm_middle (l₁ := [z.e0 a.S0, z.e1 a.S0, z.e2 a.S0]))
  have h2 := h1.swap (e' := NZ.e3 a.S0 { z with vms := u, ms := z.ms.tail }) (Chg.refl _ _) hT (fun k (hk : u.ownBlock = some k) => Or.inl (show z.vms.ownBlock = some k from by rw [← hu]; exact hk))
  exact h2.perm (List.perm_middle (l₁ := [z.e0 a.S0, z.e1 a.S0, z.e2 a.S0])).symm
theorem AS.cutLC {u : Value} {x : DC} {ks : List DC} (hk : z.kc = x :: ks) (h : AS a kl wl KL WT WL own0 w0 C (z.ents a.S0) w) (hT : Tail w a.S0 45 u ks.length (ks.map DC.d)) (hu : u.ownBlock = z.vcl.ownBlock) :
    AS a kl wl KL WT WL own0 w0 C (NZ.ents a.S0 { z with vcl := u, kc := ks }) w := by
  have h1 : AS a kl wl KL WT WL own0 w0 C (z.e1 a.S0 :: ([z.e0 a.S0] ++ ([z.e2 a.S0, z.e3 a.S0, z.e4 a.S0, z.e5 a.S0, z.e6 a.S0, z.e7 a.S0] ++ z.dats a.S0))) w := h.perm (List.perm_middle (l₁ := [z.e0 a.S0]))
  have h2 := h1.swap (e' := NZ.e1 a.S0 { z with vcl := u, kc := ks }) (Chg.refl _ _) hT (fun k (hk : u.ownBlock = some k) => Or.inl (show z.vcl.ownBlock = some k from by rw [← hu]; exact hk))
  have hd : (z.dats a.S0).Perm (dcE a.S0 x :: NZ.dats a.S0 { z with vcl := u, kc := ks }) := by
    unfold NZ.dats
    rw [hk]
    exact perm_in (perm_in (perm_in (List.Perm.refl _)))
  have h3 : AS a kl wl KL WT WL own0 w0 C (dcE a.S0 x :: (NZ.e1 a.S0 { z with vcl := u, kc := ks } :: ([z.e0 a.S0] ++ ([z.e2 a.S0, z.e3 a.S0, z.e4 a.S0, z.e5 a.S0, z.e6 a.S0, z.e7 a.S0] ++ NZ.dats a.S0 { z with vcl := u, kc := ks })))) w := h2.perm ((List.Perm.cons _ (perm_in (l1 := [z.e0 a.S0]) (perm_in (l1 := [z.e2 a.S0, z.e3 a.S0, z.e4 a.S0, z.e5 a.S0, z.e6 a.S0, z.e7 a.S0]) hd))).trans (List.Perm.swap _ _ _))
  exact h3.drop.perm (List.perm_middle (l₁ := [z.e0 a.S0])).symm
/-- The row under way is written. -/
theorem AS.writeC {x x' : DC} {R : List (Ent a.S0)} (h : AS a kl wl KL WT WL own0 w0 C (dcE a.S0 x :: R) w) (hd : x'.d = x.d) (ho : w'.ownsRow a.S0 37 2 x'.d x'.cs.length (flatC x'.cs)) (hc : Chg (fun k => x.d.ownBlock = some k) w w') : AS a kl wl KL WT WL own0 w0 C (dcE a.S0 x' :: R) w' := h.swap (e' := dcE a.S0 x') hc ho (fun k (hk : x'.d.ownBlock = some k) => Or.inl (show x.d.ownBlock = some k from by rw [← hd]; exact hk))
structure MoC (a : PA) (kl wl : Value) (w0 w : World) (x : DC) (R : List (Ent a.S0)) (mv : Value) (n : Nat) : Prop where
  own : ∃ zs, w.ownsRow a.S0 37 2 mv n zs
  loc : ∀ k, mv.ownBlock = some k → x.d.ownBlock = some k ∨ (w0.heap.size ≤ k ∧ ¬ has (dcE a.S0 x :: R) k ∧ ¬ RA a.rb kl wl k)
/-- What grows out of the row under way. -/
theorem AS.growC {x : DC} {R : List (Ent a.S0)} {mv mv' : Value} {n m : Nat} {zs : List Value} (h : AS a kl wl KL WT WL own0 w0 C (dcE a.S0 x :: R) w) (hM : MoC a kl wl w0 w x R mv n) (hn : x.cs.length ≤ n) (ho : w'.ownsRow a.S0 37 2 mv' m zs) (hg : Grew w w' mv mv') (hin : ∀ (d : Value) (n' base' : Nat) (zs : List Value), n' ≤ n → d.ownBlock = mv.ownBlock → w.ownsRow base' 37 2 d n' zs → w'.ownsRow base' 37 2 d n' zs) :
    AS a kl wl KL WT WL own0 w0 C (dcE a.S0 x :: R) w' ∧ MoC a kl wl w0 w' x R mv' m := by
  have hx : w.ownsRow a.S0 37 2 x.d x.cs.length (flatC x.cs) := h.h.all (dcE a.S0 x) (List.mem_cons_self ..)
  have key : AS a kl wl KL WT WL own0 w0 C (dcE a.S0 x :: R) w' := by
    cases hb : mv.ownBlock with
    | none =>
      refine h.more ⟨hg.g.os, hg.g.tape, hg.g.output, hg.g.size, fun k hk => hg.g.block k hk (by rw [hb]; simp)⟩
    | some j =>
      rcases hM.loc j hb with h1 | h1
      · exact h.writeC (x' := x) rfl (hin x.d x.cs.length a.S0 _ hn (h1.trans hb.symm) hx) (hg.chg.mono (fun k _ e => by rw [hb] at e; exact h1.trans e))
      · obtain ⟨zs0, h0⟩ := hM.own
        obtain ⟨cu, hcu⟩ := ownsRow_type h0 hb
        have hB : Blk w j cu 37 := hcu
        have hc : Chg (fun k => k = j) w w' := hg.chg.mono (fun k _ e => by rw [hb] at e; cases e; rfl)
        refine ⟨hc.blk h.p (Blk.ne_t h.p hB (by decide)), h.t.keep hc (Blk.ne_t h.t.blk hB (by decide)) (fun e => h.t.hm.ne_b hB e.symm) (fun e => h.t.wm.ne_b hB e.symm), h.r.keep hc (fun b hb e => h1.2.2 (e ▸ hb)), h.h.chg hc (fun k hk e => h1.2.1 (e ▸ hk)), h.ra, h.chg.trans hc (fun k hk e => by subst e; omega), h.new, h.op⟩
  refine ⟨key, ⟨_, ho⟩, fun k hk => ?_⟩
  rcases hg.at' k hk with h1 | h1
  · exact hM.loc k h1
  · exact Or.inr ⟨Nat.le_trans h.chg.size h1, fun e => by have := (h.h.typ e).2.1; omega, fun e => by have := h.low e; omega⟩
end
end Go.Proofs.Ytbjlaloofpdbfaa
