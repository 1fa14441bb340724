import Derived.Test.YtjojhhkbebddmaaShB
namespace Go.Proofs.Ytjojhhkbebddmaa
open Go.RowKit Go.PlainAid
set_option linter.unusedVariables false
set_option linter.unusedSimpArgs false
theorem set_ci {C : Array Value} {i j : Nat} {a b v : Value} (h : i ≠ j) : ((C.setIfInBounds i a).setIfInBounds j b).setIfInBounds i v = (C.setIfInBounds i v).setIfInBounds j b := by
  rw [Array.setIfInBounds_comm _ _ (Ne.symm h), Array.setIfInBounds_setIfInBounds]
theorem set_cm {C : Array Value} {i j : Nat} {a b v : Value} : ((C.setIfInBounds i a).setIfInBounds j b).setIfInBounds j v = (C.setIfInBounds i a).setIfInBounds j v := Array.setIfInBounds_setIfInBounds _
theorem get_ci {C : Array Value} {i j : Nat} {a b : Value} (h : i ≠ j) (hi : i < C.size) : ((C.setIfInBounds i a).setIfInBounds j b)[i]? = some a := by
  rw [Array.getElem?_setIfInBounds_ne (Ne.symm h), Array.getElem?_setIfInBounds_self_of_lt hi]
theorem get_cm {C : Array Value} {i j : Nat} {a b : Value} (hj : j < C.size) : ((C.setIfInBounds i a).setIfInBounds j b)[j]? = some b := Array.getElem?_setIfInBounds_self_of_lt (by simpa using hj)
/-- A list that is being held. -/
structure HS (F : Fam) (L kb : Nat) (C : Array Value) (vI0 vM0 l : Value) (es0 : List Lst) (w : World) (vI vM far : Value) (es ms : List Lst) (nf : Nat) (m : Int) (wr : World) : Prop where
  blk : Blk wr kb ((C.setIfInBounds F.ci vI).setIfInBounds F.cm vM) 76
  kf : KF F L vI vM es ms wr
  fr : wr.ownsRow L F.te F.se far nf (full F nf m)
  le : ∀ e ∈ es, ∀ g, far.ownBlock = some g → e.v.ownBlock = some g → e.n ≤ nf
  chg : Chg (fun k => k = kb ∨ vI0.ownBlock = some k ∨ vM0.ownBlock = some k ∨ l.ownBlock = some k) w wr
  ni : ∀ g, vI.ownBlock = some g → vI0.ownBlock = some g ∨ w.heap.size ≤ g
  nm : ∀ g, vM.ownBlock = some g → vM0.ownBlock = some g ∨ w.heap.size ≤ g
  nl : ∀ g, far.ownBlock = some g → l.ownBlock = some g ∨ w.heap.size ≤ g
  ne : ∀ e ∈ es, ∀ g, e.v.ownBlock = some g → (∃ e0 ∈ es0, e0.v.ownBlock = some g) ∨ l.ownBlock = some g ∨ w.heap.size ≤ g
  mrk : ∀ e ∈ es, e ∈ es0 ∨ e.m = m
  cs : C.size = 7
  lk : L ≤ kb
section
variable {F : Fam} {L kb : Nat} {C : Array Value} {vI0 vM0 l : Value} {es0 : List Lst} {w : World} {vI vM far far' v' : Value} {es ms : List Lst} {nf : Nat} {m : Int} {wr w2 : World}
theorem HS.cI (hF : F.Ok) (h : HS F L kb C vI0 vM0 l es0 w vI vM far es ms nf m wr) : wr.cell? ⟨kb, F.ci, none⟩ = some vI := by rw [h.blk.cell, get_ci hF.cc (by rw [h.cs]; exact hF.ci)]
theorem HS.cM (hF : F.Ok) (h : HS F L kb C vI0 vM0 l es0 w vI vM far es ms nf m wr) : wr.cell? ⟨kb, F.cm, none⟩ = some vM := by rw [h.blk.cell, get_cm (by rw [h.cs]; exact hF.cm)]
theorem HS.wpI (hF : F.Ok) (h : HS F L kb C vI0 vM0 l es0 w vI vM far es ms nf m wr) (hlen : (es.length + 1) * 24 ≤ 140737488355328) {ops : Array Oper} {rest : List Oper} {o : Oper} {a : Act} {Q : Exit → Act → World → Prop} (hgd : o.guard = none) (s x : Operand)
    (ho : o.op = .call { callee := .builtin .append, args := #[s, x], argTypes := #[F.tt, F.tt] }) (hs : a.eval s = vI) {g0 : Nat} (hx : a.eval x = .slice (some ⟨g0, 0, none⟩) 1 1) (hg0 : g0 = wr.heap.size)
    (hh : ∀ vo vc w2, w2.frozen? ⟨kb, F.ci, none⟩ = false → w2.cell? ⟨kb, F.ci, none⟩ = some vI → Hid (HS F L kb C vI0 vM0 l es0 w (.slice vo (es.length + 1) vc) vM far (es ++ [⟨far, nf, m⟩]) ms nf m (w2.setCell ⟨kb, F.ci, none⟩ (.slice vo (es.length + 1) vc))) → wpList Try.prog ops Q rest (a.put o.dst (.slice vo (es.length + 1) vc)) w2) : wpList Try.prog ops Q (o :: rest) a (wr.alloc (.cells #[far] F.ts)) := by
  subst hg0
  have hB : Blk (wr.alloc (.cells #[far] F.ts)) wr.heap.size #[far] F.ts := heap_alloc_new wr _
  obtain ⟨fo, fc, hff, _⟩ := own_slice h.fr
  have hlw : L ≤ wr.heap.size := Nat.le_trans h.lk (Nat.le_of_lt h.blk.lt)
  refine wpList_app F.tt F.ts (.slice none 0 0) 1 24 hF.ut hF.it rfl (by decide) (by decide) hgd s x ho L es.length vI (es.map Lst.v) hs (h.kf.xi.alloc _) ⟨wr.heap.size, 0, none⟩ 1 1 [far] hx rfl (fun j u hu => ?_) (fun u hu => by rw [List.mem_singleton.1 hu, hff]; rfl) hlen (by rw [World.size_alloc]; omega) ?_
  · rw [addr_add, Nat.zero_add, hB.cell j]
    match j with
    | 0 => simpa using hu
    | j + 1 => simp at hu
  · intro v2 w2 h1 h2 _
    obtain ⟨vo, vc, rfl, _⟩ := own_slice h1
    have hg := h2.ofAlloc
    have hlt : ∀ g, vI.ownBlock = some g → g ≠ kb := kb_ne h.kf.xi h.blk hF.s76
    have hk2 := (Grew.chg hg).blk h.blk (fun e => hlt kb e rfl)
    have hc : Chg (fun k => k = kb ∨ vI.ownBlock = some k) wr (w2.setCell ⟨kb, F.ci, none⟩ (.slice vo (es.length + 1) vc)) := ((Grew.chg hg).mono (fun j _ e => Or.inr e)).trans (chg_setCell _) (fun j _ e => Or.inl e)
    have hR : ∀ {t s n : Nat} {u : Value} {xs : List Value}, wr.ownsRow L t s u n xs → t ≠ 76 → t ≠ F.ts → (w2.setCell ⟨kb, F.ci, none⟩ (.slice vo (es.length + 1) vc)).ownsRow L t s u n xs := fun hu h44 hts => ownsRow_same hu (fun g e => hc.block g (ownsRow_lt hu e).2 (fun hb => by
      rcases hb with hb | hb
      · exact kb_ne hu h.blk h44 g e hb
      · exact ty_ne hu h.kf.xi hts g e hb))
    have hnew : (w2.setCell ⟨kb, F.ci, none⟩ (.slice vo (es.length + 1) vc)).ownsRow L F.ts 1 (.slice vo (es.length + 1) vc) (es ++ [(⟨far, nf, m⟩ : Lst)]).length ((es ++ [(⟨far, nf, m⟩ : Lst)]).map Lst.v) := by
      rw [List.length_append, List.map_append]
      refine ownsRow_same h1 (fun g e => Below.heap_setCell _ _ _ _ (fun e2 => ?_))
      have : kb < wr.heap.size := h.blk.lt
      replace e2 : g = kb := e2
      rcases hg.at' g e with q | q
      · exact hlt g q e2
      · omega
    have hbk := hk2.set F.ci (.slice vo (es.length + 1) vc)
    rw [set_ci hF.cc] at hbk
    refine hh vo vc w2 (hk2.frozen _) (by rw [hk2.cell, get_ci hF.cc (by rw [h.cs]; exact hF.ci)]) ⟨hbk, ⟨hnew, hR h.kf.xm (by decide) (Ne.symm hF.s3), fun e he => by rcases List.mem_append.1 he with q | q; exact hR (h.kf.en e q) hF.e76 hF.es; rw [List.mem_singleton.1 q]; exact hR h.fr hF.e76 hF.es⟩, hR h.fr hF.e76 hF.es, ?_, ?_, ?_, h.nm, h.nl, ?_, fun e he => by rcases List.mem_append.1 he with q | q; exact h.mrk e q; rw [List.mem_singleton.1 q]; exact .inr rfl, h.cs, h.lk⟩
    · intro e he g q1 q2
      rcases List.mem_append.1 he with q | q
      · exact h.le e q g q1 q2
      · rw [List.mem_singleton.1 q]; exact Nat.le_refl _
    · refine h.chg.trans hc (fun j hj hb => ?_)
      rcases hb with hb | hb
      · exact .inl hb
      · rcases h.ni j hb with q | q
        · exact .inr (.inl q)
        · omega
    · intro g e
      rcases hg.at' g e with q | q
      · exact h.ni g q
      · exact .inr (Nat.le_trans h.chg.size q)
    · intro e he g q1
      rcases List.mem_append.1 he with q | q
      · exact h.ne e q g q1
      · rw [List.mem_singleton.1 q] at q1
        exact .inr (h.nl g q1)
theorem HS.wpM (hF : F.Ok) (h : HS F L kb C vI0 vM0 l es0 w vI vM far es ms nf m wr) (hlen : (ms.length + 1) * 24 ≤ 140737488355328) {ops : Array Oper} {rest : List Oper} {o : Oper} {a : Act} {Q : Exit → Act → World → Prop} (hgd : o.guard = none) (s x : Operand)
    (ho : o.op = .call { callee := .builtin .append, args := #[s, x], argTypes := #[22, 22] }) (hs : a.eval s = vM) {g0 : Nat} (hx : a.eval x = .slice (some ⟨g0, 0, none⟩) 1 1) (hg0 : g0 = wr.heap.size)
    (hh : ∀ vo vc w2, w2.frozen? ⟨kb, F.cm, none⟩ = false → w2.cell? ⟨kb, F.cm, none⟩ = some vM → Hid (HS F L kb C vI0 vM0 l es0 w vI (.slice vo (ms.length + 1) vc) far es (ms ++ [⟨far, nf, m⟩]) nf m (w2.setCell ⟨kb, F.cm, none⟩ (.slice vo (ms.length + 1) vc))) → wpList Try.prog ops Q rest (a.put o.dst (.slice vo (ms.length + 1) vc)) w2) : wpList Try.prog ops Q (o :: rest) a (wr.alloc (.cells #[.int .i64 m] 3)) := by
  subst hg0
  have hB : Blk (wr.alloc (.cells #[.int .i64 m] 3)) wr.heap.size #[.int .i64 m] 3 := heap_alloc_new wr _
  have hlw : L ≤ wr.heap.size := Nat.le_trans h.lk (Nat.le_of_lt h.blk.lt)
  refine wpList_app 22 3 (.int .i64 0) 1 8 Try.underlying22 info3 rfl (by decide) (by decide) hgd s x ho L ms.length vM ((ms.map Lst.m).map I) hs (h.kf.xm.alloc _) ⟨wr.heap.size, 0, none⟩ 1 1 [.int .i64 m] hx rfl (fun j u hu => ?_) (fun u hu => by rw [List.mem_singleton.1 hu]; rfl) (by omega) (by rw [World.size_alloc]; omega) ?_
  · rw [addr_add, Nat.zero_add, hB.cell j]
    match j with
    | 0 => simpa using hu
    | j + 1 => simp at hu
  · intro v2 w2 h1 h2 _
    obtain ⟨vo, vc, rfl, _⟩ := own_slice h1
    have hg := h2.ofAlloc
    have hlt : ∀ g, vM.ownBlock = some g → g ≠ kb := kb_ne h.kf.xm h.blk (by decide)
    have hk2 := (Grew.chg hg).blk h.blk (fun e => hlt kb e rfl)
    have hc : Chg (fun k => k = kb ∨ vM.ownBlock = some k) wr (w2.setCell ⟨kb, F.cm, none⟩ (.slice vo (ms.length + 1) vc)) := ((Grew.chg hg).mono (fun j _ e => Or.inr e)).trans (chg_setCell _) (fun j _ e => Or.inl e)
    have hR : ∀ {t s n : Nat} {u : Value} {xs : List Value}, wr.ownsRow L t s u n xs → t ≠ 76 → t ≠ 3 → (w2.setCell ⟨kb, F.cm, none⟩ (.slice vo (ms.length + 1) vc)).ownsRow L t s u n xs := fun hu h44 hts => ownsRow_same hu (fun g e => hc.block g (ownsRow_lt hu e).2 (fun hb => by
      rcases hb with hb | hb
      · exact kb_ne hu h.blk h44 g e hb
      · exact ty_ne hu h.kf.xm hts g e hb))
    have hnew : (w2.setCell ⟨kb, F.cm, none⟩ (.slice vo (ms.length + 1) vc)).ownsRow L 3 1 (.slice vo (ms.length + 1) vc) (ms ++ [(⟨far, nf, m⟩ : Lst)]).length (((ms ++ [(⟨far, nf, m⟩ : Lst)]).map Lst.m).map I) := by
      rw [List.length_append, List.map_append, List.map_append]
      refine ownsRow_same h1 (fun g e => Below.heap_setCell _ _ _ _ (fun e2 => ?_))
      have : kb < wr.heap.size := h.blk.lt
      replace e2 : g = kb := e2
      rcases hg.at' g e with q | q
      · exact hlt g q e2
      · omega
    have hbk := hk2.set F.cm (.slice vo (ms.length + 1) vc)
    rw [set_cm] at hbk
    refine hh vo vc w2 (hk2.frozen _) (by rw [hk2.cell, get_cm (by rw [h.cs]; exact hF.cm)]) ⟨hbk, ⟨hR h.kf.xi hF.s76 hF.s3, hnew, fun e he => hR (h.kf.en e he) hF.e76 hF.e3⟩, hR h.fr hF.e76 hF.e3, h.le, ?_, h.ni, ?_, h.nl, h.ne, h.mrk, h.cs, h.lk⟩
    · refine h.chg.trans hc (fun j hj hb => ?_)
      rcases hb with hb | hb
      · exact .inl hb
      · rcases h.nm j hb with q | q
        · exact .inr (.inr (.inl q))
        · omega
    · intro g e
      rcases hg.at' g e with q | q
      · exact h.nm g q
      · exact .inr (Nat.le_trans h.chg.size q)
theorem HS.wpF (hF : F.Ok) (h : HS F L kb C vI0 vM0 l es0 w vI vM far es ms nf m wr) (hlen : nf ≤ 1000100) {ops : Array Oper} {rest : List Oper} {o : Oper} {a : Act} {Q : Exit → Act → World → Prop} (hgd : o.guard = none) (s x : Operand)
    (ho : o.op = .call { callee := .builtin .append, args := #[s, x], argTypes := #[F.ts, F.ts] }) (hs : a.eval s = far) {g0 : Nat} (hx : a.eval x = .slice (some ⟨g0, 0, none⟩) 1 1) (hg0 : g0 = wr.heap.size)
    (hh : ∀ vo vc w2, Hid (HS F L kb C vI0 vM0 l es0 w vI vM (.slice vo (nf + 1) vc) es ms (nf + 1) m w2) → wpList Try.prog ops Q rest (a.put o.dst (.slice vo (nf + 1) vc)) w2) : wpList Try.prog ops Q (o :: rest) a (wr.alloc (.cells (F.mk' m).toArray F.te)) := by
  subst hg0
  have hB : Blk (wr.alloc (.cells (F.mk' m).toArray F.te)) wr.heap.size (F.mk' m).toArray F.te := heap_alloc_new wr _
  have hlw : L ≤ wr.heap.size := Nat.le_trans h.lk (Nat.le_of_lt h.blk.lt)
  have hb1 : (nf + 1) * F.by' ≤ (nf + 1) * 1000 := Nat.mul_le_mul_left _ hF.b1
  refine wpList_app F.ts F.te F.z F.se F.by' hF.ue hF.ie hF.hz hF.s1 hF.b0 hgd s x ho L nf far (full F nf m) hs (h.fr.alloc _) ⟨wr.heap.size, 0, none⟩ 1 1 (F.mk' m) hx (by rw [hF.ml, Nat.one_mul]) (fun j u hu => ?_) (hF.mo m) (by omega) (by rw [World.size_alloc]; omega) ?_
  · rw [addr_add, Nat.zero_add, hB.cell j, ← Array.getElem?_toList]
    exact hu
  · intro v2 w2 h1 h2 h3
    obtain ⟨vo, vc, rfl, _⟩ := own_slice h1
    have hg := h2.ofAlloc
    have hc := Grew.chg hg
    have hR : ∀ {t s n : Nat} {u : Value} {xs : List Value}, wr.ownsRow L t s u n xs → t ≠ F.te → w2.ownsRow L t s u n xs := fun hu hts => ownsRow_same hu (fun g e => hc.block g (ownsRow_lt hu e).2 (fun hb => ty_ne hu h.fr hts g e hb))
    have hE : ∀ e ∈ es, w2.ownsRow L F.te F.se e.v e.n (full F e.n e.m) := fun e he => by
      by_cases q : ∃ g, far.ownBlock = some g ∧ e.v.ownBlock = some g
      · obtain ⟨g, q1, q2⟩ := q
        exact h3 e.v e.n L _ (h.le e he g q1 q2) (q2.trans q1.symm) ((h.kf.en e he).alloc _)
      · exact ownsRow_same (h.kf.en e he) (fun g e2 => hc.block g (ownsRow_lt (h.kf.en e he) e2).2 (fun hb => q ⟨g, hb, e2⟩))
    refine hh vo vc w2 ⟨hc.blk h.blk (fun e => kb_ne h.fr h.blk hF.e76 kb e rfl), ⟨hR h.kf.xi (Ne.symm hF.es), hR h.kf.xm (Ne.symm hF.e3), hE⟩, by rw [full_succ]; exact h1, fun e he g q1 q2 => ?_, h.chg.trans hc (fun j hj hb => ?_), h.ni, h.nm, fun g e => ?_, h.ne, h.mrk, h.cs, h.lk⟩
    · rcases hg.at' g q1 with q | q
      · have := h.le e he g q q2; omega
      · have := (ownsRow_lt (h.kf.en e he) q2).2; omega
    · rcases h.nl j hb with q | q
      · exact .inr (.inr (.inr q))
      · omega
    · rcases hg.at' g e with q | q
      · exact h.nl g q
      · exact .inr (Nat.le_trans h.chg.size q)
end
end Go.Proofs.Ytjojhhkbebddmaa
