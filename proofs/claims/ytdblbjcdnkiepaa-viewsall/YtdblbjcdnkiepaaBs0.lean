import Derived.Test.YtdblbjcdnkiepaaDgs
import Derived.Test.YtdblbjcdnkiepaaKns
import Derived.Test.YtdblbjcdnkiepaaAp3
namespace Go.Proofs.Ytdblbjcdnkiepaa
open Go.RowKit Go.PlainAid Go.MapKept
set_option linter.unusedVariables false
set_option linter.unusedSimpArgs false
/-- A pair, with the lists that were handed out last. -/
structure PX where
  i : PI
  dg : Value
  nd : Nat
  kn : Value
  nk : Nat
  v : Value
  L : List Ent
  A : List Ent
def own3 (x : PX) (k : Nat) : Prop := k = x.i.pb ∨ k = x.i.hb ∨ k = x.i.mb ∨ k = x.i.rb ∨ x.v.ownBlock = some k
def dgR (x : PX) : RW := (x.dg, x.nd, flatV (mkV (-1) x.nd))
def knR (x : PX) : RW := (x.kn, x.nk, flatR (mkR (-7) x.nk))
def lR (u : UU) : RW := (u.l, u.n, u.xs)
def wR (u : UU) : RW := (u.w, u.n, u.xs)
structure PXo (L0 N M kb : Nat) (x : PX) (w : World) : Prop where
  pp : PP L0 x.i.pb x.i.hb x.i.mb x.i.rb M x.i.me N x.dg x.kn (.pointer (some ⟨kb, 0, none⟩)) x.v x.L x.A w
  lo : L0 ≤ x.i.pb ∧ L0 ≤ x.i.hb ∧ L0 ≤ x.i.mb
  nd : x.nd ≤ 100000
  nk : x.nk ≤ 100000
section
variable {L0 N M kb : Nat} {x : PX} {w w' : World}
theorem PXo.lt (h : PXo L0 N M kb x w) {k : Nat} (hk : own3 x k) : L0 ≤ k ∧ k < w.heap.size := by
  rcases hk with rfl | rfl | rfl | rfl | hk
  · exact ⟨h.lo.1, h.pp.box.lt⟩
  · exact ⟨h.lo.2.1, h.pp.vw.blk.lt⟩
  · exact ⟨h.lo.2.2, h.pp.vw.map.lt⟩
  · exact ⟨h.pp.rv.lo, h.pp.rv.blk.lt⟩
  · exact ownsRow_lt h.pp.rv.row hk
theorem PXo.keep (h : PXo L0 N M kb x w) (hk : ∀ k, own3 x k → w'.heap[k]? = w.heap[k]?) : PXo L0 N M kb x w' :=
  ⟨⟨(hk _ (Or.inl rfl)).trans h.pp.box, ⟨(hk _ (Or.inr (Or.inl rfl))).trans h.pp.vw.blk, h.pp.vw.map.same (hk _ (Or.inr (Or.inr (Or.inl rfl))))⟩, h.pp.rv.keep (hk _ (Or.inr (Or.inr (Or.inr (Or.inl rfl))))) (fun g hg => hk g (Or.inr (Or.inr (Or.inr (Or.inr hg))))), h.pp.ag, h.pp.al⟩, h.lo, h.nd, h.nk⟩
theorem PXo.mono (h : PXo L0 N M kb x w) : PXo L0 N (M + 1) kb x w := ⟨⟨h.pp.box, h.pp.vw, h.pp.rv, h.pp.ag.mono (Nat.le_succ _), by have := h.pp.al; omega⟩, h.lo, h.nd, h.nk⟩
/-- A block of a type that no part of a pair has is none of its blocks. -/
theorem PXo.not (h : PXo L0 N M kb x w) {k : Nat} {cu : Array Value} {T : TypeId} (hB : Blk w k cu T) (h1 : T ≠ 68) (h2 : T ≠ 76) (h3 : T ≠ 116) (h4 : T ≠ 133) : ¬ own3 x k := fun hk => by
  rcases hk with hk | hk | hk | hk | hk
  · exact hB.ne_t h.pp.box h1 hk
  · exact hB.ne_t h.pp.vw.blk h2 hk
  · exact h.pp.vw.map.ne_b hB hk
  · exact hB.ne_t h.pp.rv.blk h3 hk
  · exact h.pp.rv.own_ne hB h4 hk
end
/-- Both pairs and the book. -/
structure BS (L0 N M kb : Nat) (ps : List PX) (ds ks : Value) (us vs : List UU) (w : World) : Prop where
  all : ∀ x ∈ ps, PXo L0 N M kb x w
  dj : ps.Pairwise fun x y => ∀ k, own3 x k → ¬ own3 y k
  kbx : Blk w kb #[ds, ks] 90
  kbl : L0 ≤ kb
  dsr : w.ownsRow L0 106 3 ds us.length (flatU us)
  ksr : w.ownsRow L0 109 3 ks vs.length (flatU vs)
  rv : RG L0 46 7 (ps.map dgR ++ (us.map lR ++ us.map wR)) w
  rr : RG L0 44 2 (ps.map knR ++ (vs.map lR ++ vs.map wR)) w
  hu : ∀ u ∈ us, ∃ D, u.xs = flatV D ∧ D.length = u.n ∧ u.n ≤ 40000 ∧ u.mo = .slice none 0 0
  hv : ∀ u ∈ vs, ∃ D, u.xs = flatR D ∧ D.length = u.n ∧ u.n ≤ 1000 ∧ u.mo = .slice none 0 0
  ul : us.length ≤ M
  vl : vs.length ≤ M
section
variable {L0 N M kb : Nat} {x : PX} {ps ps' R : List PX} {ds ks : Value} {us vs : List UU} {w w' : World}
theorem BS.more (h : BS L0 N M kb ps ds ks us vs w) (hb : Below w.heap.size w w') : BS L0 N M kb ps ds ks us vs w' :=
  ⟨fun x hx => (h.all x hx).keep (fun k hk => hb.block k ((h.all x hx).lt hk).2), h.dj, h.kbx.below hb h.kbx.lt, h.kbl, ownsRow_same h.dsr (fun g hg => hb.block g (ownsRow_lt h.dsr hg).2), ownsRow_same h.ksr (fun g hg => hb.block g (ownsRow_lt h.ksr hg).2), h.rv.more hb, h.rr.more hb, h.hu, h.hv, h.ul, h.vl⟩
theorem BS.mono (h : BS L0 N M kb ps ds ks us vs w) : BS L0 N (M + 1) kb ps ds ks us vs w :=
  ⟨fun x hx => (h.all x hx).mono, h.dj, h.kbx, h.kbl, h.dsr, h.ksr, h.rv, h.rr, h.hu, h.hv, Nat.le_succ_of_le h.ul, Nat.le_succ_of_le h.vl⟩
theorem BS.perm (h : BS L0 N M kb ps ds ks us vs w) (hp : ps.Perm ps') : BS L0 N M kb ps' ds ks us vs w :=
  ⟨fun x hx => h.all x (hp.mem_iff.2 hx), (hp.pairwise_iff (fun hh k h1 h2 => hh k h2 h1)).1 h.dj, h.kbx, h.kbl, h.dsr, h.ksr, h.rv.perm ((hp.map dgR).append_right _), h.rr.perm ((hp.map knR).append_right _), h.hu, h.hv, h.ul, h.vl⟩
theorem BS.lo (h : BS L0 N M kb ps ds ks us vs w) : L0 ≤ w.heap.size := Nat.le_trans h.kbl (Nat.le_of_lt h.kbx.lt)
theorem BS.head (h : BS L0 N M kb (x :: R) ds ks us vs w) : PXo L0 N M kb x w := h.all x (List.mem_cons_self ..)
theorem own_keep {base e s n : Nat} {u : Value} {xs : List Value} {B : Nat → Prop} (ho : w.ownsRow base e s u n xs) (hc : Chg B w w') (hB : ∀ g cu, Blk w g cu e → ¬ B g) : w'.ownsRow base e s u n xs :=
  ownsRow_same ho (fun g hg => hc.block g (ownsRow_lt ho hg).2 (by obtain ⟨cu, hcu⟩ := ownsRow_type ho hg; exact hB g cu hcu))
theorem rg_keep {T sz : Nat} {rs : List RW} {B : Nat → Prop} (h : RG L0 T sz rs w) (hc : Chg B w w') (hB : ∀ g cu, Blk w g cu T → ¬ B g) : RG L0 T sz rs w' :=
  h.chg hc (fun x hx g hg => by obtain ⟨cu, hcu⟩ := h.typ hx hg; exact hB g cu hcu)
/-- A call that changes the views of the first pair alone. -/
theorem BS.step (h : BS L0 N M kb (x :: R) ds ks us vs w) (hp : PPost L0 x.i.hb x.i.mb x.i.rb x.i.me N x.v (M + 1) w w') : ∃ x', x'.i = x.i ∧ BS L0 N (M + 1) kb (x' :: R) ds ks us vs w' ∧ Chg (fun k => L0 ≤ k) w w' := by
  obtain ⟨v', L', A', a, b, c, d, e, f⟩ := hp
  have hx := h.head
  have hB : ∀ g cu T, Blk w g cu T → T ≠ 116 → T ≠ 133 → ¬ (g = x.i.mb ∨ g = x.i.rb ∨ x.v.ownBlock = some g) := fun g cu T hg h1 h2 hh => by
    rcases hh with hh | hh | hh
    · exact hx.pp.vw.map.ne_b hg hh
    · exact hg.ne_t hx.pp.rv.blk h1 hh
    · exact hx.pp.rv.own_ne hg h2 hh
  have hin : ∀ k, (k = x.i.mb ∨ k = x.i.rb ∨ x.v.ownBlock = some k) → own3 x k := fun k hk => by
    rcases hk with hk | hk | hk
    · exact Or.inr (Or.inr (Or.inl hk))
    · exact Or.inr (Or.inr (Or.inr (Or.inl hk)))
    · exact Or.inr (Or.inr (Or.inr (Or.inr hk)))
  obtain ⟨hd1, hd2⟩ := List.pairwise_cons.1 h.dj
  have hR : ∀ y ∈ R, PXo L0 N M kb y w' := fun y hy => (h.all y (List.mem_cons_of_mem _ hy)).keep (fun k hk => e.block k ((h.all y (List.mem_cons_of_mem _ hy)).lt hk).2 (fun hh => hd1 y hy k (hin k hh) hk))
  have hnew : ∀ k, own3 { x with v := v', L := L', A := A' } k → own3 x k ∨ w.heap.size ≤ k := fun k hk => by
    rcases hk with hk | hk | hk | hk | hk
    · exact Or.inl (Or.inl hk)
    · exact Or.inl (Or.inr (Or.inl hk))
    · exact Or.inl (Or.inr (Or.inr (Or.inl hk)))
    · exact Or.inl (Or.inr (Or.inr (Or.inr (Or.inl hk))))
    · rcases f k hk with h1 | h1
      · exact Or.inl (Or.inr (Or.inr (Or.inr (Or.inr h1))))
      · exact Or.inr h1
  refine ⟨{ x with v := v', L := L', A := A' }, rfl, ⟨fun y hy => ?_, List.pairwise_cons.2 ⟨fun y hy k h1 h2 => ?_, hd2⟩, e.blk h.kbx (hB _ _ _ h.kbx (by decide) (by decide)), h.kbl, own_keep h.dsr e (fun g cu hg => hB g cu _ hg (by decide) (by decide)), own_keep h.ksr e (fun g cu hg => hB g cu _ hg (by decide) (by decide)), rg_keep h.rv e (fun g cu hg => hB g cu _ hg (by decide) (by decide)), rg_keep h.rr e (fun g cu hg => hB g cu _ hg (by decide) (by decide)), h.hu, h.hv, Nat.le_succ_of_le h.ul, Nat.le_succ_of_le h.vl⟩, e.mono (fun k _ hk => (hx.lt (hin k hk)).1)⟩
  · rcases List.mem_cons.1 hy with rfl | hy
    · exact ⟨⟨e.blk hx.pp.box (hB _ _ _ hx.pp.box (by decide) (by decide)), a, b, c, d⟩, hx.lo, hx.nd, hx.nk⟩
    · exact (hR y hy).mono
  · rcases hnew k h1 with h3 | h3
    · exact hd1 y hy k h3 h2
    · have := ((h.all y (List.mem_cons_of_mem _ hy)).lt h2).2
      omega
end
theorem flatDU : ∀ us : List UU, (∀ u ∈ us, u.mo = .slice none 0 0) → flatD (us.map fun u => (u.l, u.w)) = flatU us
  | [], _ => rfl
  | u :: t, h => by
    have ih := flatDU t (fun y hy => h y (List.mem_cons_of_mem _ hy))
    show [u.l, u.w, .slice none 0 0] ++ flatD (t.map fun u => (u.l, u.w)) = [u.l, u.w, u.mo] ++ flatU t
    rw [ih, h u (List.mem_cons_self ..)]
theorem perm_rows (a b c : RW) (P : List RW) (us : List UU) (u : UU) (hb : b = wR u) (hc : c = lR u) : (a :: b :: c :: (P ++ (us.map lR ++ us.map wR))).Perm (a :: (P ++ ((us ++ [u]).map lR ++ (us ++ [u]).map wR))) := by
  subst hb hc
  refine List.Perm.cons _ ?_
  rw [List.map_append, List.map_append, List.map_singleton, List.map_singleton]
  have h1 : (P ++ (us.map lR ++ [lR u] ++ (us.map wR ++ [wR u]))).Perm (lR u :: (P ++ (us.map lR ++ (us.map wR ++ [wR u])))) := by
    rw [List.append_assoc, List.singleton_append, ← List.append_assoc, ← List.append_assoc]
    exact List.perm_middle
  have h2 : (P ++ (us.map lR ++ (us.map wR ++ [wR u]))).Perm (wR u :: (P ++ (us.map lR ++ us.map wR))) := by
    rw [← List.append_assoc, ← List.append_assoc, ← List.append_assoc]
    exact (List.perm_append_comm (l₁ := (P ++ us.map lR) ++ us.map wR) (l₂ := [wR u]))
  exact (List.Perm.swap _ _ _).trans ((h1.trans (List.Perm.cons _ h2)).symm)
section
variable {L0 N M kb : Nat} {x : PX} {ps ps' R : List PX} {ds ks : Value} {us vs : List UU} {w w' : World}
/-- Digest: one answer more in the book. -/
theorem BS.digest (h : BS L0 N M kb (x :: R) ds ks us vs w) (hM : M ≤ 300) {D : List Ent} {ds' lv wv dg' : Value} (hD : D = rdigL x.i.me x.A)
    (hd : DS L0 x.i.pb x.i.hb x.i.mb x.i.rb kb x.nk x.i.me N dg' x.kn x.v ks ds ds' x.L x.A (us.map (fun u => (u.l, u.w)) ++ [(lv, wv)]) ((dg', D.length, flatV (mkV (-1) D.length)) :: (wv, D.length, flatV D) :: (lv, D.length, flatV D) :: (R.map dgR ++ (us.map lR ++ us.map wR))) w w') :
    ∃ x' ds' us', x'.i = x.i ∧ BS L0 N (M + 1) kb (x' :: R) ds' ks us' vs w' ∧ Chg (fun k => L0 ≤ k) w w' := by
  have hx := h.head
  have hDl : D.length ≤ 40000 := by rw [hD]; unfold rdigL; rw [List.length_map]; have := nmsL_len x.i.me x.A; have := hx.pp.al; omega
  have hB : ∀ g cu T, Blk w g cu T → T ≠ 68 → T ≠ 90 → T ≠ 106 → ¬ (g = x.i.pb ∨ g = kb ∨ ds.ownBlock = some g) := fun g cu T hg h1 h2 h3 hh => by
    rcases hh with hh | hh | hh
    · exact hg.ne_t hx.pp.box h1 hh
    · exact hg.ne_t h.kbx h2 hh
    · exact row_ne h.dsr hg h3 hh
  obtain ⟨hd1, hd2⟩ := List.pairwise_cons.1 h.dj
  have hR : ∀ y ∈ R, PXo L0 N M kb y w' := fun y hy => by
    have hy' := h.all y (List.mem_cons_of_mem _ hy)
    refine hy'.keep (fun k hk => hd.chg.block k (hy'.lt hk).2 (fun hh => ?_))
    rcases hh with hh | hh | hh
    · exact hd1 y hy k (Or.inl hh) hk
    · subst hh; exact hy'.not h.kbx (by decide) (by decide) (by decide) (by decide) hk
    · obtain ⟨cu, hcu⟩ := ownsRow_type h.dsr hh
      exact hy'.not (show Blk w k cu 106 from hcu) (by decide) (by decide) (by decide) (by decide) hk
  have hmo : ∀ u ∈ us, u.mo = .slice none 0 0 := fun u hu => by obtain ⟨_, _, _, _, e⟩ := h.hu u hu; exact e
  refine ⟨{ x with dg := dg', nd := D.length }, ds', us ++ [⟨lv, wv, .slice none 0 0, D.length, flatV D⟩], rfl, ⟨fun y hy => ?_, List.pairwise_cons.2 ⟨hd1, hd2⟩, hd.kbx, h.kbl, ?_, own_keep h.ksr hd.chg (fun g cu hg => hB g cu _ hg (by decide) (by decide) (by decide)), ?_, rg_keep h.rr hd.chg (fun g cu hg => hB g cu _ hg (by decide) (by decide) (by decide)), fun u hu => ?_, h.hv, ?_, Nat.le_succ_of_le h.vl⟩, hd.chg.mono (fun k _ hk => ?_)⟩
  · rcases List.mem_cons.1 hy with rfl | hy
    · exact ⟨⟨hd.box, hd.vw, hd.rv, hx.pp.ag.mono (Nat.le_succ _), by have := hx.pp.al; show x.A.length ≤ 128 * (M + 1); omega⟩, hx.lo, by show D.length ≤ 100000; omega, hx.nk⟩
    · exact (hR y hy).mono
  · have e1 : us.map (fun u => (u.l, u.w)) ++ [(lv, wv)] = (us ++ [(⟨lv, wv, .slice none 0 0, D.length, flatV D⟩ : UU)]).map (fun u : UU => (u.l, u.w)) := by rw [List.map_append]; rfl
    have h9 := hd.dsr
    rw [e1, List.length_map, flatDU _ (fun u hu => by
      rcases List.mem_append.1 hu with hu | hu
      · exact hmo u hu
      · rw [List.mem_singleton.1 hu])] at h9
    exact h9
  · exact hd.rg.perm (perm_rows _ _ _ (R.map dgR) us _ rfl rfl)
  · rcases List.mem_append.1 hu with hu | hu
    · exact h.hu u hu
    · rw [List.mem_singleton.1 hu]; exact ⟨D, rfl, rfl, hDl, rfl⟩
  · rw [List.length_append]; exact Nat.succ_le_succ h.ul
  · rcases hk with rfl | rfl | hk
    · exact hx.lo.1
    · exact h.kbl
    · exact (ownsRow_lt h.dsr hk).1
/-- Known, likewise. -/
theorem BS.knows (h : BS L0 N M kb (x :: R) ds ks us vs w) (hN : N ≤ 16) {nm : List UInt8} {D : List (Int × Int)} {ks' lv wv kn' : Value} (hD : D = rknownL nm x.A N)
    (hd : KS L0 x.i.pb x.i.hb x.i.mb x.i.rb kb x.nd x.i.me N x.dg kn' x.v ds ks ks' x.L x.A (vs.map (fun u => (u.l, u.w)) ++ [(lv, wv)]) ((kn', N, flatR (mkR (-7) N)) :: (wv, N, flatR D) :: (lv, N, flatR D) :: (R.map knR ++ (vs.map lR ++ vs.map wR))) w w') :
    ∃ x' ks' vs', x'.i = x.i ∧ BS L0 N (M + 1) kb (x' :: R) ds ks' us vs' w' ∧ Chg (fun k => L0 ≤ k) w w' := by
  have hx := h.head
  have hDl : D.length = N := by rw [hD]; exact rknownL_len _ _ _
  have hB : ∀ g cu T, Blk w g cu T → T ≠ 68 → T ≠ 90 → T ≠ 109 → ¬ (g = x.i.pb ∨ g = kb ∨ ks.ownBlock = some g) := fun g cu T hg h1 h2 h3 hh => by
    rcases hh with hh | hh | hh
    · exact hg.ne_t hx.pp.box h1 hh
    · exact hg.ne_t h.kbx h2 hh
    · exact row_ne h.ksr hg h3 hh
  obtain ⟨hd1, hd2⟩ := List.pairwise_cons.1 h.dj
  have hR : ∀ y ∈ R, PXo L0 N M kb y w' := fun y hy => by
    have hy' := h.all y (List.mem_cons_of_mem _ hy)
    refine hy'.keep (fun k hk => hd.chg.block k (hy'.lt hk).2 (fun hh => ?_))
    rcases hh with hh | hh | hh
    · exact hd1 y hy k (Or.inl hh) hk
    · subst hh; exact hy'.not h.kbx (by decide) (by decide) (by decide) (by decide) hk
    · obtain ⟨cu, hcu⟩ := ownsRow_type h.ksr hh
      exact hy'.not (show Blk w k cu 109 from hcu) (by decide) (by decide) (by decide) (by decide) hk
  have hmo : ∀ u ∈ vs, u.mo = .slice none 0 0 := fun u hu => by obtain ⟨_, _, _, _, e⟩ := h.hv u hu; exact e
  refine ⟨{ x with kn := kn', nk := N }, ks', vs ++ [⟨lv, wv, .slice none 0 0, N, flatR D⟩], rfl, ⟨fun y hy => ?_, List.pairwise_cons.2 ⟨hd1, hd2⟩, hd.kbx, h.kbl, own_keep h.dsr hd.chg (fun g cu hg => hB g cu _ hg (by decide) (by decide) (by decide)), ?_, rg_keep h.rv hd.chg (fun g cu hg => hB g cu _ hg (by decide) (by decide) (by decide)), ?_, h.hu, fun u hu => ?_, Nat.le_succ_of_le h.ul, ?_⟩, hd.chg.mono (fun k _ hk => ?_)⟩
  · rcases List.mem_cons.1 hy with rfl | hy
    · exact ⟨⟨hd.box, hd.vw, hd.rv, hx.pp.ag.mono (Nat.le_succ _), by have := hx.pp.al; show x.A.length ≤ 128 * (M + 1); omega⟩, hx.lo, hx.nd, by show N ≤ 100000; omega⟩
    · exact (hR y hy).mono
  · have e1 : vs.map (fun u => (u.l, u.w)) ++ [(lv, wv)] = (vs ++ [(⟨lv, wv, .slice none 0 0, N, flatR D⟩ : UU)]).map (fun u : UU => (u.l, u.w)) := by rw [List.map_append]; rfl
    have h9 := hd.ksr
    rw [e1, List.length_map, flatDU _ (fun u hu => by
      rcases List.mem_append.1 hu with hu | hu
      · exact hmo u hu
      · rw [List.mem_singleton.1 hu])] at h9
    exact h9
  · exact hd.rg.perm (perm_rows _ _ _ (R.map knR) vs _ rfl rfl)
  · rcases List.mem_append.1 hu with hu | hu
    · exact h.hv u hu
    · rw [List.mem_singleton.1 hu]; exact ⟨D, rfl, hDl, by show N ≤ 1000; omega, rfl⟩
  · rw [List.length_append]; exact Nat.succ_le_succ h.vl
  · rcases hk with rfl | rfl | hk
    · exact hx.lo.1
    · exact h.kbl
    · exact (ownsRow_lt h.ksr hk).1
end
/-! The book as parts that lie apart. -/
theorem held_app {L : Nat} {X Y : List (Pt L)} {w : World} (hX : Held X w) (hY : Held Y w) (hn : ∀ k, has X k → ¬ has Y k) : Held (X ++ Y) w :=
  ⟨fun e he => (List.mem_append.1 he).elim (hX.all e) (hY.all e), List.pairwise_append.2 ⟨hX.dj, hY.dj, fun a ha b hb k h1 h2 => hn k ⟨a, ha, h1⟩ ⟨b, hb, h2⟩⟩⟩
section
variable {L T sz RT : Nat} {mkf : Int → Nat → List Value} {us : List UU} {w : World}
theorem uPs_get : ∀ (us : List UU) (i : Nat) (e : Pt L), e ∈ uPs L T sz mkf 0 0 i us → ∃ j, ∃ u ∈ us, e = uPt L T sz mkf 0 0 j u
  | [], i, e, h => by cases h
  | u :: t, i, e, h => by
    rcases List.mem_cons.1 h with rfl | h
    · exact ⟨i, u, List.mem_cons_self .., rfl⟩
    · obtain ⟨j, y, hy, rfl⟩ := uPs_get t (i + 1) e h
      exact ⟨j, y, List.mem_cons_of_mem _ hy, rfl⟩
theorem uPt_bl {j k : Nat} {u : UU} (hm : u.mo = .slice none 0 0) (h : (uPt L T sz mkf 0 0 j u).bl k) : u.l.ownBlock = some k := by
  rcases h with h | h
  · exact h
  · rw [hm] at h; cases h
theorem uPt_P {j : Nat} {u : UU} (hm : u.mo = .slice none 0 0) (h : w.ownsRow L T sz u.l u.n u.xs) : (uPt L T sz mkf 0 0 j u).P w := by
  show w.ownsRow L T sz u.l u.n (if j < 0 then _ else u.xs) ∧ w.ownsRow L T sz u.mo (if j < 0 then _ else 0) (if j < 0 then _ else [])
  rw [if_neg (Nat.not_lt_zero _), if_neg (Nat.not_lt_zero _), if_neg (Nat.not_lt_zero _), hm]
  exact ⟨h, World.ownsRow_nil _ _ _ _⟩
theorem uPs_dj : ∀ (us : List UU) (i : Nat), (us.map lR).Pairwise (fun a b => ∀ g, a.1.ownBlock = some g → b.1.ownBlock ≠ some g) → (∀ u ∈ us, u.mo = .slice none 0 0) → (uPs L T sz mkf 0 0 i us).Pairwise Pt.Dj
  | [], i, _, _ => List.Pairwise.nil
  | u :: t, i, h, hm => by
    obtain ⟨h1, h2⟩ := List.pairwise_cons.1 h
    refine List.pairwise_cons.2 ⟨fun e he k hk hk2 => ?_, uPs_dj t (i + 1) h2 (fun y hy => hm y (List.mem_cons_of_mem _ hy))⟩
    obtain ⟨j, y, hy, rfl⟩ := uPs_get t (i + 1) e he
    exact h1 (lR y) (List.mem_map.2 ⟨y, hy, rfl⟩) k (uPt_bl (hm u (List.mem_cons_self ..)) hk) (uPt_bl (hm y (List.mem_cons_of_mem _ hy)) hk2)
theorem held_units (h : RG L T sz (us.map lR ++ us.map wR) w) (hm : ∀ u ∈ us, u.mo = .slice none 0 0) : Held (uPs L T sz mkf 0 0 0 us ++ us.map (wPt L T sz)) w ∧ ∀ k, has (uPs L T sz mkf 0 0 0 us ++ us.map (wPt L T sz)) k → ∃ cu, Blk w k cu T := by
  obtain ⟨d1, d2, d3⟩ := List.pairwise_append.1 h.dj
  refine ⟨⟨fun e he => ?_, List.pairwise_append.2 ⟨uPs_dj us 0 d1 hm, ?_, fun e he y hy k h1 h2 => ?_⟩⟩, ?_⟩
  · rcases List.mem_append.1 he with he | he
    · obtain ⟨j, u, hu, rfl⟩ := uPs_get us 0 e he
      exact uPt_P (hm u hu) (h.all (lR u) (List.mem_append.2 (Or.inl (List.mem_map.2 ⟨u, hu, rfl⟩))))
    · obtain ⟨u, hu, rfl⟩ := List.mem_map.1 he
      exact h.all (wR u) (List.mem_append.2 (Or.inr (List.mem_map.2 ⟨u, hu, rfl⟩)))
  · rw [List.pairwise_map] at d2 ⊢
    exact d2.imp (fun hh k h1 h2 => hh k h1 h2)
  · obtain ⟨j, u, hu, rfl⟩ := uPs_get us 0 e he
    obtain ⟨v, hv, rfl⟩ := List.mem_map.1 hy
    exact d3 (lR u) (List.mem_map.2 ⟨u, hu, rfl⟩) (wR v) (List.mem_map.2 ⟨v, hv, rfl⟩) k (uPt_bl (hm u hu) h1) h2
  · rintro k ⟨e, he, hk⟩
    rcases List.mem_append.1 he with he | he
    · obtain ⟨j, u, hu, rfl⟩ := uPs_get us 0 e he
      exact h.typ (x := lR u) (List.mem_append.2 (Or.inl (List.mem_map.2 ⟨u, hu, rfl⟩))) (uPt_bl (hm u hu) hk)
    · obtain ⟨u, hu, rfl⟩ := List.mem_map.1 he
      exact h.typ (x := wR u) (List.mem_append.2 (Or.inr (List.mem_map.2 ⟨u, hu, rfl⟩))) hk
theorem held_kPs {sv : Value} {Y : List (Pt L)} (h : RG L T sz (us.map lR ++ us.map wR) w) (hm : ∀ u ∈ us, u.mo = .slice none 0 0) (hr : w.ownsRow L RT 3 sv us.length (flatU us)) (hT : T ≠ RT) (hY : Held Y w) (hYt : ∀ k, has Y k → ∃ cu U, Blk w k cu U ∧ U ≠ T ∧ U ≠ RT) :
    Held (kPs L T sz RT mkf sv 0 0 us Y) w ∧ ∀ k, has (kPs L T sz RT mkf sv 0 0 us Y) k → (∃ cu, Blk w k cu T) ∨ (∃ cu, Blk w k cu RT) ∨ has Y k := by
  obtain ⟨h1, h2⟩ := held_units (mkf := mkf) h hm
  have h3 : Held (rowP L RT 3 sv us.length (flatU us) :: Y) w := hY.add hr (fun k hk hh => by
    obtain ⟨cu, U, hB, _, hU⟩ := hYt k hh
    exact row_ne hr hB hU hk)
  have h4 : Held ((uPs L T sz mkf 0 0 0 us ++ us.map (wPt L T sz)) ++ (rowP L RT 3 sv us.length (flatU us) :: Y)) w := held_app h1 h3 (fun k hk hh => by
    obtain ⟨cu, hcu⟩ := h2 k hk
    rcases has_cons.1 hh with hh | hh
    · exact row_ne hr hcu hT hh
    · obtain ⟨cu2, U, hB, hU, _⟩ := hYt k hh
      exact hB.ne_t hcu hU rfl)
  have hp : ((uPs L T sz mkf 0 0 0 us ++ us.map (wPt L T sz)) ++ (rowP L RT 3 sv us.length (flatU us) :: Y)).Perm (kPs L T sz RT mkf sv 0 0 us Y) := by
    unfold kPs
    refine List.perm_middle.trans ?_
    rw [List.append_assoc]
    exact List.perm_middle.symm
  refine ⟨h4.perm hp, fun k hk => ?_⟩
  rw [← has_perm hp] at hk
  obtain ⟨e, he, hk⟩ := hk
  rcases List.mem_append.1 he with he | he
  · exact Or.inl (h2 k ⟨e, he, hk⟩)
  · rcases List.mem_cons.1 he with rfl | he
    · obtain ⟨cu, hcu⟩ := ownsRow_type hr hk
      exact Or.inr (Or.inl ⟨cu, hcu⟩)
    · exact Or.inr (Or.inr ⟨e, he, hk⟩)
end
end Go.Proofs.Ytdblbjcdnkiepaa
