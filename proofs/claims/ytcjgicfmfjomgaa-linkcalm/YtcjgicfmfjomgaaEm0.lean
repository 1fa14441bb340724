import Derived.Test.YtcjgicfmfjomgaaUnd
namespace Go.Proofs.Ytcjgicfmfjomgaa
open Go.RowKit Go.PlainAid Go.MapKept Go.Conc
set_option linter.unusedVariables false
set_option linter.unusedSimpArgs false
/-- The first i of the box have gone. -/
def LV.moved (x : LV) (i : Nat) : LV := { x with box := x.box.drop i, under := x.under ++ x.box.take i }
theorem moved_0 (x : LV) : x.moved 0 = x := by cases x; simp [LV.moved]
theorem moved_all (x : LV) (i : Nat) : (x.moved i).all.Perm x.all := by
  unfold LV.all LV.moved
  simp only
  refine List.Perm.append ?_ (List.Perm.refl _)
  have e : x.box = x.box.take i ++ x.box.drop i := (List.take_append_drop i x.box).symm
  refine List.Perm.trans ?_ (List.Perm.append (List.Perm.of_eq e.symm) (List.Perm.refl x.under))
  refine (List.perm_append_comm).trans ?_
  rw [List.append_assoc]
  refine (List.perm_append_comm).trans ?_
  exact List.Perm.refl _
theorem app_dv {w : World} {L : Nat} {v : Value} {ds : List Dv} (d : Dv) (hd : d.v.oneCell' = true) (hown : w.ownsRow L 41 1 v ds.length (ds.map Dv.v)) (hb : L ≤ w.heap.size) (hl : ds.length ≤ 100000) :
    ∃ v' w', (∀ ty, (Builtin.append_ #[36, 36] ty #[v, .slice (some ⟨w.heap.size, 0, none⟩) 1 1]).run Try.prog (w.alloc (.cells #[d.v] 41)) = .ok v' w') ∧ w'.ownsRow L 41 1 v' (ds ++ [d]).length ((ds ++ [d]).map Dv.v) ∧ Grew w w' v v' := by
  obtain ⟨v5, w5, hr5, ho5, hg5, _⟩ := app_any (w := w.alloc (.cells #[d.v] 41)) 36 41 (.slice none 0 0) 1 24 Try.underlying36 info41 rfl (by decide) (by decide) (hown.alloc _) ⟨w.heap.size, 0, none⟩ 1 1 [d.v] rfl (fun j uu hu => by
    have hB : Blk (w.alloc (.cells #[d.v] 41)) w.heap.size #[d.v] 41 := heap_alloc_new w _
    rw [addr_add, Nat.zero_add, hB.cell j]
    simpa using hu) (fun uu hu => by rw [List.mem_singleton.1 hu]; exact hd) (by omega) (by rw [World.size_alloc]; omega) 36
  refine ⟨v5, w5, fun ty => hr5, ?_, hg5.ofAlloc⟩
  simpa using ho5
/-- One of the box is taken out, and stands behind what is under way. -/
theorem LM.shift {L lb cb mb : Nat} {uv : Value} {x : LV} {i : Nat} {d : Dv} {w : World} (h : LM L lb cb mb uv (x.moved i) w) (hd : x.box[i]? = some d) (hu : x.under.length ≤ 1000) (hi : i ≤ 1000) {s r : Nat} :
    ∃ uv' w2, (∀ ty, (Builtin.append_ #[36, 36] ty #[uv, .slice (some ⟨w.heap.size, 0, none⟩) 1 1]).run Try.prog ((w.setChan cb x.win ((x.box.drop (i + 1)).map Dv.v).toArray false s r false).alloc (.cells #[d.v] 41)) = .ok uv' w2) ∧
      w2.cell? ⟨lb, 6, none⟩ = some uv ∧ w2.frozen? ⟨lb, 6, none⟩ = false ∧ LM L lb cb mb uv' (x.moved (i + 1)) (w2.setCell ⟨lb, 6, none⟩ uv') ∧ LStp lb cb mb uv uv' (x.moved i) (x.moved (i + 1)) w (w2.setCell ⟨lb, 6, none⟩ uv') ∧ d ∈ (x.moved i).all ∧ (∃ uo uc, uv' = .slice uo (x.under.length + i + 1) uc) := by
  have hil : i < x.box.length := (List.getElem?_eq_some_iff.1 hd).1
  have hbx : (x.moved i).box = d :: x.box.drop (i + 1) := by
    show x.box.drop i = _
    rw [List.drop_eq_getElem_cons hil]
    congr 1
    rw [List.getElem?_eq_getElem hil] at hd
    exact Option.some.inj hd
  have hdm : d ∈ (x.moved i).all := by
    unfold LV.all
    rw [hbx]
    simp
  have hul : (x.moved i).under.length = x.under.length + i := by
    show (x.under ++ x.box.take i).length = _
    simp
    omega
  obtain ⟨dao, dc, hdv, _⟩ := own_slice (h.dt d hdm)
  have hone : d.v.oneCell' = true := by rw [hdv]; rfl
  have hc := setChan_chg w cb x.win ((x.box.drop (i + 1)).map Dv.v).toArray false s r false
  obtain ⟨s0, r0, hcc⟩ := h.c
  have hty : ∀ {t z n M : Nat} {u : Value} {xs : List Value}, w.ownsRow M t z u n xs → (w.setChan cb x.win ((x.box.drop (i + 1)).map Dv.v).toArray false s r false).ownsRow M t z u n xs := fun hq => ownsRow_same hq (fun g e => hc.block g (ownsRow_lt hq e).2 (fun e2 => by
    obtain ⟨cur, hcur⟩ := ownsRow_type hq e
    rw [e2] at hcur
    have := hcur.symm.trans hcc
    cases this))
  have hLw : L ≤ w.heap.size := Nat.le_trans h.lo.1 (Nat.le_of_lt h.b.lt)
  have hszc : (w.setChan cb x.win ((x.box.drop (i + 1)).map Dv.v).toArray false s r false).heap.size = w.heap.size := by simp [World.setChan]
  obtain ⟨uv', w2, hr, ho, hg⟩ := app_dv d hone (hty h.u) (by rw [hszc]; exact hLw) (by rw [hul]; omega)
  rw [hszc] at hr
  have hne := h.ne_lb
  have hB1 : Blk (w.setChan cb x.win ((x.box.drop (i + 1)).map Dv.v).toArray false s r false) lb (lbox (x.moved i) cb mb uv) 77 := hc.blk h.b (fun e => hne.1 e.symm)
  have hB2 : Blk w2 lb (lbox (x.moved i) cb mb uv) 77 := hg.chg.blk hB1 (fun e => hne.2.2.1 lb e rfl)
  have hcs := setCell_chg w2 lb 6 uv'
  have hC1 : (w.setChan cb x.win ((x.box.drop (i + 1)).map Dv.v).toArray false s r false).heap[cb]? = some (.chan x.win ((x.box.drop (i + 1)).map Dv.v).toArray false s r false) := heap_setChan _ _ _ _ _ _ _ _ h.clt
  have huc : ∀ g, uv.ownBlock = some g → g ≠ cb := fun g e e2 => by
    obtain ⟨cur, hcur⟩ := ownsRow_type h.u e
    rw [e2] at hcur
    have := hcur.symm.trans hcc
    cases this
  have hC2 : w2.heap[cb]? = some (.chan x.win ((x.box.drop (i + 1)).map Dv.v).toArray false s r false) := (hg.chg.block cb (by rw [hszc]; exact h.clt) (fun e => huc cb e rfl)).trans hC1
  have hM1 : HMap MB (w.setChan cb x.win ((x.box.drop (i + 1)).map Dv.v).toArray false s r false) mb ((x.moved i).early.map fun p => (p.1, p.2.v)) := h.m.same (hc.block mb h.m.lt (fun e => by
    obtain ⟨es, cl, hm, _⟩ := h.m
    rw [e] at hm
    have := hm.symm.trans hcc
    cases this))
  have hM2 : HMap MB w2 mb ((x.moved i).early.map fun p => (p.1, p.2.v)) := hM1.same (hg.chg.block mb hM1.lt (fun e => by
    obtain ⟨cur, hcur⟩ := ownsRow_type (hty h.u) e
    exact hM1.ne_b hcur rfl))
  have hnew : ∀ g, uv'.ownBlock = some g → g ≠ lb := fun g e e2 => by
    rcases hg.at' g e with q | q
    · exact hne.2.2.1 g q e2
    · have := h.b.lt
      rw [hszc] at q
      omega
  have hdt : ∀ e ∈ (x.moved i).all, (w2.setCell ⟨lb, 6, none⟩ uv').ownsRow L 5 1 e.v e.s.length (e.s.map B) := fun e he => by
    have h1 := hty (h.dt e he)
    have h2 := ownsRow_same h1 (fun g q => hg.chg.block g (ownsRow_lt h1 q).2 (fun q2 => by
      obtain ⟨c1, q1⟩ := ownsRow_type h1 q
      obtain ⟨c2, q3⟩ := ownsRow_type (hty h.u) q2
      exact Blk.ne_t q1 q3 (by decide) rfl))
    exact ownsRow_same h2 (fun g q => hcs.block g (ownsRow_lt h2 q).2 (hne.2.2.2 e he g q))
  have hp : (x.moved (i + 1)).all.Perm (x.moved i).all := (moved_all x (i + 1)).trans (moved_all x i).symm
  have hund : (x.moved (i + 1)).under = (x.moved i).under ++ [d] := by
    show x.under ++ x.box.take (i + 1) = (x.under ++ x.box.take i) ++ [d]
    rw [List.take_add_one, hd, List.append_assoc]
    rfl
  refine ⟨uv', w2, hr, hB2.cell 6, hB2.frozen 6, ⟨?_, ⟨s, r, ?_⟩, ?_, ?_, fun e he => hdt e (hp.mem_iff.1 he), ?_, h.lo⟩, ⟨?_, fun k hk => ?_⟩, hdm, ?_⟩
  · exact hB2.set 6 uv'
  · exact (hcs.block cb (Nat.lt_of_lt_of_le (by rw [hszc]; exact h.clt) hg.g.size) hne.1).trans hC2
  · have := ownsRow_same ho (fun g e => hcs.block g (ownsRow_lt ho e).2 (hnew g e))
    rw [hund]
    exact this
  · exact hM2.same (hcs.block mb hM2.lt hne.2.1)
  · exact (List.Perm.pairwise_iff (fun {a b} hab g h1 h2 => hab g h2 h1) hp).2 h.dj
  · have a1 : Chg (lown lb cb mb uv (x.moved i)) w (w.setChan cb x.win ((x.box.drop (i + 1)).map Dv.v).toArray false s r false) := hc.mono (fun j _ e => .inr (.inl e))
    have a2 := a1.trans (hg.chg.mono (B := lown lb cb mb uv (x.moved i)) (fun j _ e => .inr (.inr (.inr (.inl e))))) (fun _ _ e => e)
    exact a2.trans (hcs.mono (B := lown lb cb mb uv (x.moved i)) (fun j _ e => .inl e)) (fun _ _ e => e)
  · rcases hk with q | q | q | q | ⟨e, he, q⟩
    · exact .inl (.inl q)
    · exact .inl (.inr (.inl q))
    · exact .inl (.inr (.inr (.inl q)))
    · rcases hg.at' k q with q | q
      · exact .inl (.inr (.inr (.inr (.inl q))))
      · rw [hszc] at q
        exact .inr q
    · exact .inl (.inr (.inr (.inr (.inr ⟨e, hp.mem_iff.1 he, q⟩))))
  · obtain ⟨uo, uc, hq, _⟩ := own_slice ho
    refine ⟨uo, uc, ?_⟩
    rw [hq]
    congr 1
    simp only [List.length_append, hul, List.length_cons, List.length_nil]
end Go.Proofs.Ytcjgicfmfjomgaa
