import Derived.Test.YtdblbjcdnkiepaaAg
namespace Go.Proofs.Ytdblbjcdnkiepaa
open Go.RowKit Go.PlainAid Go.MapKept
set_option linter.unusedVariables false
set_option linter.unusedSimpArgs false
structure Ent.good (e : Ent) : Prop where
  n : e.n.length ≤ 16
  c : 1 ≤ e.c ∧ e.c ≤ 1099511627776
  v : 1 ≤ e.v
  d : 0 ≤ e.d
  u : 0 ≤ e.u
  h : 0 ≤ e.h
  s : e.d + e.u + e.h ≤ e.c
theorem right_good {e : Ent} (h : e.right = true) : e.good := by
  unfold Ent.right at h
  rw [fits3] at h
  simp only [Bool.and_eq_true, decide_eq_true_eq, nameB] at h
  obtain ⟨⟨⟨⟨⟨h1, h2⟩, h3⟩, h4⟩, h5⟩, ⟨⟨h6, h7⟩, h8⟩, h9⟩ := h
  exact ⟨h1.1.2, ⟨h2, h3⟩, h5, h6, h7, h8, h9⟩
/-- How the program's views and the document's agree. -/
structure AgC (me : Int) (M : Nat) (L A : List Ent) : Prop where
  ok : ∀ r n, look r n L = lastO r n A
  kn : KN L
  rt : ∀ e ∈ L, e.right = true
  ow : ∀ e ∈ L, e.r = me → e.v ≤ (M : Int)
  ll : L.length ≤ A.length
section
variable {me : Int} {M : Nat} {L A : List Ent}
theorem AgC.new (me : Int) (M : Nat) : AgC me M [] [] := ⟨fun _ _ => rfl, List.Pairwise.nil, (fun _ h => by cases h), (fun _ h => by cases h), Nat.le_refl _⟩
theorem AgC.mono {M' : Nat} (h : AgC me M L A) (hm : M ≤ M') : AgC me M' L A := ⟨h.ok, h.kn, h.rt, fun e he hr => by have := h.ow e he hr; omega, h.ll⟩
theorem AgC.put (h : AgC me M L A) {e : Ent} (hr : e.right = true) (hv : e.r = me → e.v ≤ (M : Int)) : AgC me M (putE e L) (A ++ [e]) := by
  refine ⟨fun r n => ?_, h.kn.put, fun x hx => ?_, fun x hx hh => ?_, ?_⟩
  · rw [look_put, lastO_app, h.ok]
  · rcases mem_put hx with rfl | hx
    · exact hr
    · exact h.rt x hx
  · rcases mem_put hx with rfl | hx
    · exact hv hh
    · exact h.ow x hx hh
  · have := put_len e L
    have := h.ll
    simp
    omega
theorem AgC.d (h : AgC me M L A) (r : Int) (n : List UInt8) : lookD r n L = lastD r n A := by unfold lookD; rw [h.ok, lastD_is]
theorem AgC.is (h : AgC me M L A) (r : Int) (n : List UInt8) : (look r n L).isSome = true ↔ (lastD r n A).v ≠ 0 := by
  rw [← h.d]
  unfold lookD
  cases hq : look r n L with
  | none => simp [zed]
  | some e =>
    have := (right_good (h.rt e (look_key hq).1)).v
    simp
    omega
theorem AgC.cnt (h : AgC me M L A) (r : Int) : cntR r L = (nmsL r A).length := by
  have e1 : cntR r L = ((own r L).map Ent.n).length := by rw [List.length_map]; unfold cntR own; rw [List.countP_eq_length_filter]
  have hmem : ∀ x, x ∈ (own r L).map Ent.n ↔ x ∈ nmsL r A := fun x => by
    rw [mem_nms, ← lastO_mem, ← h.ok, List.mem_map]
    constructor
    · rintro ⟨e, he, rfl⟩
      have h2 := List.mem_filter.1 he
      have hr : e.r = r := by simpa using h2.2
      have := h.kn.look h2.1
      rw [hr] at this
      rw [this]
      rfl
    · intro hs
      obtain ⟨e, he⟩ := Option.isSome_iff_exists.1 hs
      obtain ⟨k1, k2, k3⟩ := look_key he
      exact ⟨e, List.mem_filter.2 ⟨k1, by simpa using k2⟩, k3⟩
  have n1 : ((own r L).map Ent.n).Nodup := by
    unfold List.Nodup
    rw [List.pairwise_map]
    have h2 : (own r L).Pairwise fun a b => ¬ (a.r = b.r ∧ a.n = b.n) := h.kn.filter _
    refine h2.imp_of_mem fun {a b} ha hb hh e => hh ⟨?_, e⟩
    have h3 : a.r = r := by simpa using (List.mem_filter.1 ha).2
    have h4 : b.r = r := by simpa using (List.mem_filter.1 hb).2
    rw [h3, h4]
  have n2 : (nmsL r A).Nodup := (nms_ups r A).imp fun {a b} hh e => by
    subst e
    rw [nlt_irrefl] at hh
    cases hh
  rw [e1]
  exact Nat.le_antisymm (len_le_sub n1 fun x hx => (hmem x).1 hx) (len_le_sub n2 fun x hx => (hmem x).2 hx)
theorem AgC.about (h : AgC me M L A) (n : List UInt8) : ∀ k, aboutS n L k = raboutS n A k ∧ aboutK n L k = raboutK n A k
  | 0 => ⟨rfl, rfl⟩
  | k + 1 => by
    have ih := h.about n k
    have h1 := h.d k n
    have h2 := h.is k n
    refine ⟨by simp only [aboutS, raboutS, ih.1, h1], ?_⟩
    simp only [aboutK, raboutK, ih.2]
    congr 1
    have h3 : 0 ≤ (lastD k n A).v := by
      rw [← h1]
      unfold lookD
      cases hq : look (k : Int) n L with
      | none => simp [zed]
      | some e => have := (right_good (h.rt e (look_key hq).1)).v; simp; omega
    cases hs : (look (k : Int) n L).isSome
    · rw [eq_comm, decide_eq_false_iff_not]
      intro h4
      have := h2.2 (by omega)
      rw [hs] at this
      cases this
    · rw [eq_comm, decide_eq_true_eq]
      have := h2.1 hs
      omega
theorem AgC.known (h : AgC me M L A) (n : List UInt8) (k : Nat) : knownL n L k = rknownL n A k := by
  unfold knownL rknownL
  congr 1
  funext q
  rw [h.d]
theorem AgC.dig (h : AgC me M L A) {ds : List Ent} (ht : Told me L ds) : ds = rdigL me A := by
  obtain ⟨hp, hs⟩ := ht
  have hm : ∀ e, e ∈ ds ↔ e ∈ L ∧ e.r = me := fun e => by rw [hp.mem_iff]; unfold own; rw [List.mem_filter]; simp
  have hk : ds.Pairwise fun a b => ¬ (a.r = b.r ∧ a.n = b.n) := (hp.pairwise_iff (fun {a b} hh e => hh ⟨e.1.symm, e.2.symm⟩)).2 (h.kn.filter _)
  have hu : Ups (ds.map Ent.n) := by
    unfold Ups
    rw [List.pairwise_map]
    have h2 := hs.and hk
    refine h2.imp_of_mem fun {a b} ha hb hh => ?_
    rcases nlt_or hh.1 with e | e
    · exact absurd ⟨((hm a).1 ha).2.trans ((hm b).1 hb).2.symm, e.symm⟩ hh.2
    · exact e
  have he : ds.map Ent.n = nmsL me A := by
    refine ups_ext hu (nms_ups me A) fun x => ?_
    rw [mem_nms, ← lastO_mem, ← h.ok, List.mem_map]
    constructor
    · rintro ⟨e, he, rfl⟩
      obtain ⟨h1, h2⟩ := (hm e).1 he
      have := h.kn.look h1
      rw [h2] at this
      rw [this]
      rfl
    · intro hs
      obtain ⟨e, he⟩ := Option.isSome_iff_exists.1 hs
      obtain ⟨k1, k2, k3⟩ := look_key he
      exact ⟨e, (hm e).2 ⟨k1, k2⟩, k3⟩
  unfold rdigL
  rw [← he, List.map_map]
  conv => lhs; rw [← List.map_id ds]
  refine List.map_congr_left fun e he => ?_
  obtain ⟨h1, h2⟩ := (hm e).1 he
  have := h.kn.look h1
  rw [h2] at this
  show e = lastD me e.n A
  rw [← h.d]
  unfold lookD
  rw [this]
  rfl
theorem AgC.tell (h : AgC me M L A) (n : List UInt8) (c rc d u hh : Int) : tellCode me L ⟨me, n, c, rc, 1, d, u, hh⟩ = rtellCode me A ⟨me, n, c, rc, 1, d, u, hh⟩ ∧ AgC me (M + 1) (tellNext me L ⟨me, n, c, rc, 1, d, u, hh⟩) (rtellNext me A ⟨me, n, c, rc, 1, d, u, hh⟩) ∧ (rtellNext me A ⟨me, n, c, rc, 1, d, u, hh⟩).length ≤ A.length + 1 := by
  have hc := h.cnt me
  have hd := h.d me n
  have hi := h.is me n
  have hm := h.mono (Nat.le_succ M)
  unfold tellCode rtellCode tellNext rtellNext
  simp only
  by_cases hr : Ent.right ⟨me, n, c, rc, 1, d, u, hh⟩ = false
  · simp only [if_pos hr]
    exact ⟨trivial, hm, Nat.le_succ _⟩
  · simp only [if_neg hr]
    replace hr : Ent.right ⟨me, n, c, rc, 1, d, u, hh⟩ = true := by simpa using hr
    by_cases hs : (look me n L).isSome = true
    · have hv := hi.1 hs
      have hno : ¬ ((lastD me n A).v = 0 ∧ 64 ≤ (nmsL me A).length) := fun e => hv e.1
      simp only [if_pos hs, if_neg hno]
      refine ⟨trivial, ?_⟩
      rw [hd]
      obtain ⟨l, hl⟩ := Option.isSome_iff_exists.1 hs
      obtain ⟨k1, k2, k3⟩ := look_key hl
      have hle : lastD me n A = l := by rw [← hd]; unfold lookD; rw [hl]; rfl
      rw [hle]
      have hg := right_good (h.rt l k1)
      have hov := h.ow l k1 k2
      by_cases hq : rsame l ⟨me, n, c, rc, 1, d, u, hh⟩
      · have hq2 : sameV ⟨me, n, c, rc, l.v, d, u, hh⟩ l = true := by
          obtain ⟨_, q1, q2, q3, q4, q5⟩ := hq
          simp only at q1 q2 q3 q4 q5
          simp [sameV, k3, q1, q2, q3, q4, q5]
        rw [if_pos hq2, if_pos hq]
        exact ⟨hm, Nat.le_succ _⟩
      · have hq2 : ¬ sameV ⟨me, n, c, rc, l.v, d, u, hh⟩ l = true := fun hq3 => hq (by
          simp [sameV] at hq3
          obtain ⟨⟨⟨⟨⟨q0, q1⟩, q2⟩, q3⟩, q4⟩, q5⟩ := hq3
          exact ⟨by have := hg.v; omega, q1.symm, q2.symm, q3.symm, q4.symm, q5.symm⟩)
        rw [if_neg hq2, if_neg hq]
        refine ⟨hm.put (e := ⟨me, n, c, rc, l.v + 1, d, u, hh⟩) ?_ (fun _ => by simp only; omega), by simp⟩
        have hg2 := right_good hr
        have hg3 : decide (1 ≤ l.v + 1) = true := by have := hg.v; simp; omega
        unfold Ent.right at hr ⊢
        simp only at hr ⊢
        rw [hg3]
        simpa using hr
    · have hv : (lastD me n A).v = 0 := by
        cases Decidable.em ((lastD me n A).v = 0) with
        | inl e => exact e
        | inr e => exact absurd (hi.2 e) hs
      simp only [if_neg hs]
      by_cases hf : 64 ≤ cntR me L
      · have hf2 : (lastD me n A).v = 0 ∧ 64 ≤ (nmsL me A).length := ⟨hv, by omega⟩
        simp only [if_pos hf, if_pos hf2]
        exact ⟨trivial, hm, Nat.le_succ _⟩
      · have hf2 : ¬ ((lastD me n A).v = 0 ∧ 64 ≤ (nmsL me A).length) := fun e => hf (by omega)
        have hq : ¬ rsame (lastD me n A) ⟨me, n, c, rc, 1, d, u, hh⟩ := fun e => by have := e.1; omega
        simp only [if_neg hf, if_neg hf2, if_neg hq]
        refine ⟨trivial, ?_, by simp⟩
        rw [hv]
        exact hm.put (e := ⟨me, n, c, rc, 1, d, u, hh⟩) hr (fun _ => by simp only; omega)
theorem right_re {e : Ent} (h : e.right = true) (r : Int) : Ent.right { e with r := r } = true := h
theorem AgC.fold {r : Int} (hr : r ≠ me) : ∀ (es : List Ent) (L A : List Ent) (k : Nat), (∀ e ∈ es, e.right = true) → AgC me M L A →
    (es.foldl (takeStep r) (L, k)).2 = (es.foldl (rtakeStep r) (A, k)).2 ∧ AgC me M (es.foldl (takeStep r) (L, k)).1 (es.foldl (rtakeStep r) (A, k)).1 ∧ (es.foldl (rtakeStep r) (A, k)).1.length ≤ A.length + es.length
  | [], L, A, k, _, h => ⟨rfl, h, Nat.le_refl _⟩
  | e :: t, L, A, k, he, h => by
    simp only [List.foldl_cons]
    have hd := h.d r e.n
    by_cases hv : (lookD r e.n L).v < e.v
    · have e1 : takeStep r (L, k) e = (putE { e with r := r } L, k + 1) := by unfold takeStep; rw [if_pos hv]
      have e2 : rtakeStep r (A, k) e = (A ++ [{ e with r := r }], k + 1) := by unfold rtakeStep; rw [if_pos (by rw [← hd]; exact hv)]
      rw [e1, e2]
      obtain ⟨a, b, c⟩ := AgC.fold hr t _ _ (k + 1) (fun x hx => he x (List.mem_cons_of_mem _ hx)) (h.put (right_re (he e (List.mem_cons_self ..)) r) (fun e => absurd e hr))
      refine ⟨a, b, ?_⟩
      simp at c ⊢
      omega
    · have e1 : takeStep r (L, k) e = (L, k) := by unfold takeStep; rw [if_neg hv]
      have e2 : rtakeStep r (A, k) e = (A, k) := by unfold rtakeStep; rw [if_neg (by rw [← hd]; exact hv)]
      rw [e1, e2]
      obtain ⟨a, b, c⟩ := AgC.fold hr t _ _ k (fun x hx => he x (List.mem_cons_of_mem _ hx)) h
      refine ⟨a, b, ?_⟩
      simp at c ⊢
      omega
theorem AgC.take (h : AgC me M L A) (N r : Int) (es : List Ent) : takeCode me N r L es = rtakeCode me N r A es ∧ (takeNext me N r L es).2 = (rtakeNext me N r A es).2 ∧ AgC me M (takeNext me N r L es).1 (rtakeNext me N r A es).1 ∧ (rtakeNext me N r A es).1.length ≤ A.length + 64 := by
  have hc := h.cnt r
  have hst : strangeC r L es = rfresh r A es := by
    unfold strangeC rfresh
    refine List.countP_congr fun e _ => ?_
    have := h.is r e.n
    cases hl : look r e.n L with
    | none =>
      rw [hl] at this
      simp at this
      simp [this]
    | some y =>
      rw [hl] at this
      simp at this
      simp [this]
  have e1 : takeCode me N r L es = rtakeCode me N r A es := by unfold takeCode rtakeCode; rw [hc, hst]
  refine ⟨e1, ?_⟩
  unfold takeNext rtakeNext
  rw [e1]
  by_cases h0 : rtakeCode me N r A es = 0
  · simp only [if_pos h0]
    unfold rtakeCode at h0
    split at h0
    · cases h0
    · rename_i g1
      split at h0
      · cases h0
      · rename_i g2
        split at h0
        · cases h0
        · rename_i g3
          have hdg : Dig es := dgB_iff.1 (by simpa using g3)
          obtain ⟨a, b, c⟩ := AgC.fold (me := me) (fun e => g1 (Or.inr (Or.inr e))) es L A 0 hdg.1 h
          exact ⟨a, b, Nat.le_trans c (by omega)⟩
  · simp only [if_neg h0]
    exact ⟨trivial, h, by omega⟩
end
end Go.Proofs.Ytdblbjcdnkiepaa
