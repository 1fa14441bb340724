import Derived.Test.YtehjdkdoalmaeaaPair6
import Derived.Test.YtehjdkdoalmaeaaSends0
namespace Go.Proofs.Ytehjdkdoalmaeaa
open Go.RowKit Go.PlainAid
set_option linter.unusedVariables false
set_option linter.unusedSimpArgs false
section
variable {ops : Array Oper} {C : World → Prop} {eff : Nat → Bool} {Q : Act → World → Prop} {a : Act} {w w1 : World} {rest : List Oper} {o : Oper} {f : Nat → Value} {N d k z : Nat}
theorem lep (hF : Fr N a f) (he : eff k = true) (hC : C w) (hd : o.dst = some d) (hN : d < N) (hw : Region.wanted o (yielded ops a.tmps) = true) {v : Value} (hr : (execOp a.eval o).run Try.prog w = .ok (.value v) w1)
    (h : Fr N (a.put (some d) v) (upd f d v) → wpLex Try.prog ops C eff z Q rest (k + 1) (a.put (some d) v) w1) : wpLex Try.prog ops C eff z Q (o :: rest) k a w := by
  refine ⟨hC, ?_⟩
  rw [if_pos he]
  exact Or.inl ⟨hw, Or.inl ⟨v, w1, Or.inl hr, by rw [hd]; exact h (hF.put d v hN)⟩⟩
end
section
variable {L pb hbn hbr room : Nat} {s s' : PS} {w w2 : World}
theorem PStp.vals (ho : w2.os = w.os ∧ w2.tape = w.tape ∧ w2.output = w.output ∧ w.heap.size ≤ w2.heap.size) (hg : ∀ k, k < w.heap.size → ¬ s.has pb hbn hbr k → w2.heap[k]? = w.heap[k]?) (hv : ∀ u ∈ s'.vals, ∀ k, u.ownBlock = some k → k ∈ s.foot ∨ w.heap.size ≤ k) : PStp pb hbn hbr s s' w w2 := by
  refine ⟨ho.1, ho.2.1, ho.2.2.1, ho.2.2.2, hg, fun k hk => ?_⟩
  rcases hk with h | h | h | h
  · exact Or.inl (Or.inl h)
  · exact Or.inl (Or.inr (Or.inl h))
  · exact Or.inl (Or.inr (Or.inr (Or.inl h)))
  · obtain ⟨u, hu, hb⟩ := List.mem_filterMap.1 h
    exact (hv u hu k hb).imp (fun q => Or.inr (Or.inr (Or.inr q))) id
theorem side_fl {x : Dat} {fl : List Dat} (hf : s.fl = x :: fl) : s.side.Perm (x.d :: (s.part3 ++ fl.map Dat.d)) := by
  unfold PS.side
  rw [hf, List.map_cons]
  exact List.perm_middle
theorem side_ks {x : Dat} {pre : List Dat} (hk : s.ks = pre ++ [x]) : s.side.Perm (x.d :: (([s.vb, s.vm, s.vl, s.vf, s.vw] ++ pre.map Dat.d) ++ (s.ls.map Dat.d ++ s.fl.map Dat.d))) := by
  have e : s.side = ([s.vb, s.vm, s.vl, s.vf, s.vw] ++ pre.map Dat.d) ++ x.d :: (s.ls.map Dat.d ++ s.fl.map Dat.d) := by
    unfold PS.side PS.part3
    rw [hk]
    simp
  rw [e]
  exact List.perm_middle
/-- What is under way is written over. -/
theorem PInv.refloat (h : PInv L pb hbn hbr room s w) {x : Dat} {fl : List Dat} (hf : s.fl = x :: fl) {bs' : List UInt8} (hT : w2.ownsRow L 5 1 x.d bs'.length (bs'.map B)) (hg : ∀ k, k < w.heap.size → x.d.ownBlock ≠ some k → w2.heap[k]? = w.heap[k]?) : PInv L pb hbn hbr room { s with fl := ⟨x.d, bs'⟩ :: fl } w2 := by
  have hp := side_fl hf
  have hO : ∀ y ∈ s.part3 ++ fl.map Dat.d, ∀ g, y.ownBlock = some g → w2.heap[g]? = w.heap[g]? := fun y hy g hg2 => by
    have hm := h.mS y (hp.mem_iff.2 (List.mem_cons.2 (Or.inr hy)))
    exact hg g (h.blt y hm g hg2) (fun e => h.sideOne hp g e y hy hg2)
  have hxm : x.d ∈ s.vals := h.mS x.d (hp.mem_iff.2 (by simp))
  have hpb : x.d.ownBlock ≠ some pb := fun e => (h.notBox x.d hxm pb e).1 rfl
  obtain ⟨hb, hr⟩ := h.bagsKept (w' := w2) fun k hk h1 h2 => hg k hk fun e => h2 (mem_blocks.2 ⟨x.d, hp.mem_iff.2 (by simp), e⟩)
  refine ⟨(hg pb h.pblt hpb).trans h.box, hb, hr, tail_same h.bytes (hO _ (by simp [PS.part3])), tail_same h.marks (hO _ (by simp [PS.part3])), fun y hy => ownsRow_same (h.kept y hy) (hO _ (by simp only [PS.part3, List.mem_append, List.mem_cons, List.mem_map]; exact Or.inl (Or.inr (Or.inr (Or.inr (Or.inr (Or.inr (Or.inl ⟨y, hy, rfl⟩)))))))), ownsRow_same h.lentO (hO _ (by simp [PS.part3])), tail_same h.left (hO _ (by simp [PS.part3])), tail_same h.were (hO _ (by simp [PS.part3])), fun y hy => ownsRow_same (h.lefts y hy) (hO _ (by simp only [PS.part3, List.mem_append, List.mem_cons, List.mem_map]; exact Or.inl (Or.inr (Or.inr (Or.inr (Or.inr (Or.inr (Or.inr ⟨y, hy, rfl⟩)))))))), fun y hy => ?_, ?_⟩
  · rcases List.mem_cons.1 hy with rfl | hy
    · exact hT
    · exact ownsRow_same (h.float y (by rw [hf]; simp [hy])) (hO _ (by simp only [List.mem_append, List.mem_map]; exact Or.inr ⟨y, hy, rfl⟩))
  · have e : ({ s with fl := ⟨x.d, bs'⟩ :: fl } : PS).vals = s.vals := by simp [PS.vals, PS.part1, PS.part2, PS.part3, hf]
    have := h.nodup
    unfold PS.foot at this ⊢
    rw [e]
    exact this
/-- An answer that is kept: its spare room is written into. -/
theorem PInv.rekept (h : PInv L pb hbn hbr room s w) {x : Dat} {pre : List Dat} (hk : s.ks = pre ++ [x]) (hT : w2.ownsRow L 5 1 x.d x.bs.length (x.bs.map B)) (hg : ∀ k, k < w.heap.size → x.d.ownBlock ≠ some k → w2.heap[k]? = w.heap[k]?) : PInv L pb hbn hbr room s w2 := by
  have hp := side_ks hk
  have hO : ∀ y ∈ ([s.vb, s.vm, s.vl, s.vf, s.vw] ++ pre.map Dat.d) ++ (s.ls.map Dat.d ++ s.fl.map Dat.d), ∀ g, y.ownBlock = some g → w2.heap[g]? = w.heap[g]? := fun y hy g hg2 => by
    have hm := h.mS y (hp.mem_iff.2 (List.mem_cons.2 (Or.inr hy)))
    exact hg g (h.blt y hm g hg2) (fun e => h.sideOne hp g e y hy hg2)
  have hxm : x.d ∈ s.vals := h.mS x.d (hp.mem_iff.2 (by simp))
  have hpb : x.d.ownBlock ≠ some pb := fun e => (h.notBox x.d hxm pb e).1 rfl
  obtain ⟨hb, hr⟩ := h.bagsKept (w' := w2) fun k hk h1 h2 => hg k hk fun e => h2 (mem_blocks.2 ⟨x.d, hp.mem_iff.2 (by simp), e⟩)
  refine ⟨(hg pb h.pblt hpb).trans h.box, hb, hr, tail_same h.bytes (hO _ (by simp)), tail_same h.marks (hO _ (by simp)), fun y hy => ?_, ownsRow_same h.lentO (hO _ (by simp)), tail_same h.left (hO _ (by simp)), tail_same h.were (hO _ (by simp)), fun y hy => ownsRow_same (h.lefts y hy) (hO _ (by simp only [List.mem_append, List.mem_map]; exact Or.inr (Or.inl ⟨y, hy, rfl⟩))), fun y hy => ownsRow_same (h.float y hy) (hO _ (by simp only [List.mem_append, List.mem_map]; exact Or.inr (Or.inr ⟨y, hy, rfl⟩))), h.nodup⟩
  have hy' := hy
  rw [hk] at hy'
  rcases List.mem_append.1 hy' with q | q
  · exact ownsRow_same (h.kept y hy) (hO _ (by simp only [List.mem_append, List.mem_map]; exact Or.inl (Or.inr ⟨y, q, rfl⟩)))
  · simp only [List.mem_singleton] at q
    subst q
    exact hT
set_option maxHeartbeats 800000 in
/-- The oldest answer is dropped. -/
theorem PInv.cutBytes (h : PInv L pb hbn hbr room s w) {y : Dat} {ks' : List Dat} (hk : s.ks = y :: ks') {u' : Value} (hT : Tail w L 29 u' ks'.length (ks'.map Dat.d)) (hu : u'.ownBlock = s.vb.ownBlock) :
    PInv L pb hbn hbr room { s with vb := u', ks := ks' } (w.setCell ⟨pb, 2, none⟩ u') := by
  have hp : s.side.Perm (s.vb :: ([s.vm, s.vl, s.vf, s.vw] ++ (s.ks.map Dat.d ++ s.ls.map Dat.d ++ s.fl.map Dat.d))) := perm_pick0 s.vb s.vm s.vl s.vf s.vw (s.ks.map Dat.d ++ s.ls.map Dat.d ++ s.fl.map Dat.d)
  have hO : ∀ y ∈ [s.vm, s.vl, s.vf, s.vw] ++ (s.ks.map Dat.d ++ s.ls.map Dat.d ++ s.fl.map Dat.d), ∀ g, y.ownBlock = some g → (w.setCell ⟨pb, 2, none⟩ u').heap[g]? = w.heap[g]? := fun y hy g hg2 => by
    have hm := h.mS y (hp.mem_iff.2 (List.mem_cons.2 (Or.inr hy)))
    exact Below.heap_setCell _ _ _ _ (h.notBox y hm g hg2).1
  have hself : ∀ g, u'.ownBlock = some g → (w.setCell ⟨pb, 2, none⟩ u').heap[g]? = w.heap[g]? := fun g hg2 => Below.heap_setCell _ _ _ _ (h.notBox s.vb (h.mS s.vb (hp.mem_iff.2 (by simp))) g (by rw [← hu]; exact hg2)).1
  obtain ⟨hb, hr⟩ := h.bagsKept (w' := (w.setCell ⟨pb, 2, none⟩ u')) fun k hk h1 h2 => Below.heap_setCell _ _ _ _ h1
  have hsl : (blocks ({ s with vb := u', ks := ks' } : PS).side).Sublist (blocks s.side) := by
    have e1 : ({ s with vb := u', ks := ks' } : PS).side = u' :: ([s.vm, s.vl, s.vf, s.vw] ++ (ks'.map Dat.d ++ s.ls.map Dat.d ++ s.fl.map Dat.d)) := by simp [PS.side, PS.part3]
    have e2 : s.side = s.vb :: ([s.vm, s.vl, s.vf, s.vw] ++ (s.ks.map Dat.d ++ s.ls.map Dat.d ++ s.fl.map Dat.d)) := by simp [PS.side, PS.part3]
    rw [e1, e2]
    have q1 : ∀ (a : Value) (l : List Value), blocks (a :: l) = blocks [a] ++ blocks l := fun a l => blocks_append [a] l
    rw [q1 u', q1 s.vb, show blocks [u'] = blocks [s.vb] from by simp [blocks, List.filterMap_cons, hu]]
    refine List.Sublist.append_left ?_ _
    refine List.Sublist.filterMap _ (List.Sublist.append_left (List.Sublist.append_right (List.Sublist.append_right ?_ _) _) _)
    rw [hk, List.map_cons]
    exact List.sublist_cons_self _ _
  have hn := h.ndS
  rw [blocks_append] at hn
  exact ⟨Blk.set h.box 2 u', hb, hr, tail_same hT hself, tail_same h.marks (hO _ (by simp)), fun z hz => ownsRow_same (h.kept z (by rw [hk]; simp [hz])) (hO _ (by simp only [List.mem_append, List.mem_map]; exact Or.inr (Or.inl (Or.inl ⟨z, by rw [hk]; simp [hz], rfl⟩)))), ownsRow_same h.lentO (hO _ (by simp)), tail_same h.left (hO _ (by simp)), tail_same h.were (hO _ (by simp)), fun x hx => ownsRow_same (h.lefts x hx) (hO _ (by simp only [List.mem_append, List.mem_map]; exact Or.inr (Or.inl (Or.inr ⟨x, hx, rfl⟩)))), fun x hx => ownsRow_same (h.float x hx) (hO _ (by simp only [List.mem_append, List.mem_map]; exact Or.inr (Or.inr ⟨x, hx, rfl⟩))), h.ndNew rfl ((List.nodup_append.1 hn).1.sublist hsl) (fun k hk => Or.inl (hsl.subset hk))⟩
end
/-- One byte is appended; whatever lies within the row stays. -/
theorem app1 {w : World} {base k : Nat} {v : Value} {xs : List UInt8} (hown : w.ownsRow base 5 1 v k (xs.map B)) (ad : Addr) (u : UInt8) (hsrc : From w (some ad) [u]) (hlen : k + 1 ≤ 140737488355328) (hbase : base ≤ w.heap.size) (ty : TypeId) :
    ∃ v' w', (Builtin.append_ #[29, 29] ty #[v, .slice (some ad) 1 1]).run Try.prog w = .ok v' w' ∧ w'.ownsRow base 5 1 v' (k + 1) ((xs ++ [u]).map B) ∧ Grew w w' v v' ∧
      ∀ (d : Value) (n base' : Nat) (ys : List Value), n ≤ k → d.ownBlock = v.ownBlock → w.ownsRow base' 5 1 d n ys → w'.ownsRow base' 5 1 d n ys := by
  obtain ⟨i0, hi, hz0, hz1, hz2⟩ := info_parts Try.info5
  obtain ⟨v', w', hr, h1, h2, _⟩ := run_append_own (P := Try.prog) w base 29 ty 5 i0 _ 1 1 Try.underlying29 hi hz0 hz1 hz2 rfl (by decide) v k (xs.map B) hown ad 1 1 ([u].map B) (by simp) (news_of hsrc) (oneCells [u]) (by unfold maxLen; omega) (by omega) hbase
  rw [← List.map_append] at h1
  refine ⟨v', w', hr, h1, ⟨h2, append_where hown ad 1 1 [u] rfl hsrc hlen _ hr⟩, fun d n base' ys hn hd hod => ?_⟩
  rcases hown.2 with ⟨rfl, rfl⟩ | ⟨g, c, cur, rfl, _, hg, hnc, hcm, hcs, htk⟩
  · rcases hod.2 with ⟨rfl, rfl⟩ | ⟨g2, c2, cur2, rfl, _⟩
    · exact ⟨hod.1, Or.inl ⟨rfl, rfl⟩⟩
    · cases hd
  · rcases hod.2 with ⟨rfl, rfl⟩ | ⟨g2, c2, cur2, rfl, hb2, hg2, hnc2, hcm2, hcs2, htk2⟩
    · cases hd
    · cases hd
      rw [hg] at hg2
      cases hg2
      by_cases hroom : k + 1 ≤ c
      · have hr1 := run_append_room (P := Try.prog) w 29 ty 5 i0 Try.underlying29 hi g k c cur hg ad 1 1 ([u].map B) (by simp [hz1]) (news_of hsrc) (oneCells [u]) hroom (by rw [hz1, hcs]; simp; omega)
        rw [hr] at hr1
        cases hr1
        have hsz : (cur.toList.take (k * i0.size) ++ [u].map B ++ cur.toList.drop (k * i0.size + ([u].map B).length)).toArray.size = cur.size := by
          rw [hz1]; simp; omega
        refine ⟨hod.1, Or.inr ⟨g, c2, _, rfl, hb2, setRow_heap _ _ _ _ 5 _ hg, hnc2, hcm2, by rw [hsz]; exact hcs2, ?_⟩⟩
        rw [List.append_assoc, hz1]
        simp only [Nat.mul_one] at htk2 ⊢
        rw [List.take_append_of_le_length (by simp; omega), List.take_take, Nat.min_eq_left hn, htk2]
      · have hr1 := run_append_grow (P := Try.prog) w 29 ty 5 i0 _ Try.underlying29 hi hz0 ⟨g, 0, none⟩ k c (xs.map B) (by rw [hz1]; exact hown.1) (hown.cells (g := g) rfl) ad 1 1 ([u].map B) (by simp [hz1]) (news_of hsrc) (by omega) (by omega) (growslice_fits (by omega) (by rw [hz2]; omega))
        rw [hr] at hr1
        cases hr1
        refine ownsRow_same hod fun j hj => ?_
        cases hj
        have := (Array.getElem?_eq_some_iff.1 hg).1
        exact Below.heap_alloc _ _ _ (by simpa using this)
/-- The step of it in a walk. -/
theorem wpList_app1 {w : World} {ops : Array Oper} {rest : List Oper} {o : Oper} {a : Act} {Q : Exit → Act → World → Prop} (hgd : o.guard = none) (s x : Operand)
    (ho : o.op = .call { callee := .builtin .append, args := #[s, x], argTypes := #[29, 29] })
    (base k : Nat) (v : Value) (xs : List UInt8) (hs : a.eval s = v) (hown : w.ownsRow base 5 1 v k (xs.map B))
    (ad : Addr) (u : UInt8) (hx : a.eval x = .slice (some ad) 1 1) (hsrc : From w (some ad) [u]) (hlen : k + 1 ≤ 140737488355328) (hbase : base ≤ w.heap.size)
    (h : ∀ v' w', w'.ownsRow base 5 1 v' (k + 1) ((xs ++ [u]).map B) → Grew w w' v v' → (∀ (d : Value) (n base' : Nat) (ys : List Value), n ≤ k → d.ownBlock = v.ownBlock → w.ownsRow base' 5 1 d n ys → w'.ownsRow base' 5 1 d n ys) → wpList Try.prog ops Q rest (a.put o.dst v') w') : wpList Try.prog ops Q (o :: rest) a w := by
  obtain ⟨v', w', hr, h1, h2, h3⟩ := app1 hown ad u hsrc hlen hbase o.type
  refine wpList_plain hgd fun K hK => ?_
  unfold Oper.wp execOp
  simp only [ho, resolve, invoke, builtin, Sem.run_bind, Sem.run_pure, Result.andThen_ok, List.map_toArray, List.map_cons, List.map_nil, hs, hx, hr]
  exact hK _ _ (h v' w' h1 h2 h3)
/-- Bounds on the counts of a pair. -/
structure PCnt (n : Nat) (s : PS) : Prop where
  t0 : 0 ≤ s.turns
  t1 : s.turns ≤ n
  m0 : 0 ≤ s.mark
  m1 : s.mark ≤ n
  z0 : 0 ≤ s.size
  z1 : s.size ≤ 4194304
  ls : s.ls.length ≤ n
  small : ∀ x ∈ s.ls, x.bs.length ≤ 1048576
end Go.Proofs.Ytehjdkdoalmaeaa
