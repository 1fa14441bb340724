import Derived.Test.YtifgmefdlmjocaaRg
import Derived.Test.YtifgmefdlmjocaaTlo
namespace Go.Proofs.Ytifgmefdlmjocaa
open Go.RowKit Go.PlainAid Go.MapKept
set_option linter.unusedVariables false
set_option linter.unusedSimpArgs false
/-- The last one of a replica and a name, if there is one. -/
def lastO (r : Int) (n : List UInt8) (A : List Ent) : Option Ent := A.foldl (fun x e => if isK r n e = true then some e else x) none
theorem lastO_app (r : Int) (n : List UInt8) (A : List Ent) (e : Ent) : lastO r n (A ++ [e]) = if isK r n e = true then some e else lastO r n A := by simp [lastO]
theorem lastD_is (r : Int) (n : List UInt8) (A : List Ent) : lastD r n A = (lastO r n A).getD zed := by
  suffices h : ∀ (A : List Ent) (x : Ent) (y : Option Ent), x = y.getD zed → A.foldl (fun x e => if isK r n e = true then e else x) x = (A.foldl (fun x e => if isK r n e = true then some e else x) y).getD zed from h A zed none rfl
  intro A
  induction A with
  | nil => intro x y h; exact h
  | cons e t ih =>
    intro x y h
    simp only [List.foldl_cons]
    apply ih
    split
    · rfl
    · exact h
theorem lastO_mem (r : Int) (n : List UInt8) (A : List Ent) : (lastO r n A).isSome = true ↔ ∃ e ∈ A, e.r = r ∧ e.n = n := by
  suffices h : ∀ (A : List Ent) (y : Option Ent), (A.foldl (fun x e => if isK r n e = true then some e else x) y).isSome = true ↔ (y.isSome = true ∨ ∃ e ∈ A, e.r = r ∧ e.n = n) from by
    have := h A none
    simpa [lastO] using this
  intro A
  induction A with
  | nil => intro y; simp
  | cons e t ih =>
    intro y
    simp only [List.foldl_cons]
    rw [ih]
    by_cases hk : isK r n e = true
    · rw [if_pos hk]
      have := isK_iff.1 hk
      constructor
      · intro _; exact Or.inr ⟨e, List.mem_cons_self .., this.1.symm, this.2.symm⟩
      · intro _; exact Or.inl rfl
    · rw [if_neg hk]
      constructor
      · rintro (h | ⟨x, hx, h⟩)
        · exact Or.inl h
        · exact Or.inr ⟨x, List.mem_cons_of_mem _ hx, h⟩
      · rintro (h | ⟨x, hx, h⟩)
        · exact Or.inl h
        · rcases List.mem_cons.1 hx with rfl | hx
          · exact absurd (isK_iff.2 ⟨h.1.symm, h.2.symm⟩) hk
          · exact Or.inr ⟨x, hx, h⟩
def KN (L : List Ent) : Prop := L.Pairwise fun a b => ¬ (a.r = b.r ∧ a.n = b.n)
theorem mem_put {e y : Ent} : ∀ {L : List Ent}, y ∈ putE e L → y = e ∨ y ∈ L
  | [], h => by simp [putE] at h; exact Or.inl h
  | x :: t, h => by
    simp only [putE] at h
    split at h
    · rcases List.mem_cons.1 h with h | h
      · exact Or.inl h
      · exact Or.inr (List.mem_cons_of_mem _ h)
    · rcases List.mem_cons.1 h with h | h
      · exact Or.inr (by rw [h]; exact List.mem_cons_self ..)
      · exact (mem_put h).imp id (List.mem_cons_of_mem _)
theorem put_len (e : Ent) : ∀ L : List Ent, (putE e L).length ≤ L.length + 1
  | [] => by simp [putE]
  | x :: t => by
    have := put_len e t
    simp only [putE]
    split <;> simp <;> omega
theorem KN.put {e : Ent} : ∀ {L : List Ent}, KN L → KN (putE e L)
  | [], h => List.pairwise_cons.2 ⟨fun _ h => (by cases h), List.Pairwise.nil⟩
  | x :: t, h => by
    obtain ⟨h1, h2⟩ := List.pairwise_cons.1 h
    simp only [putE]
    by_cases hk : isK e.r e.n x = true
    · rw [if_pos hk]
      have he := isK_iff.1 hk
      exact List.pairwise_cons.2 ⟨fun b hb hh => h1 b hb ⟨he.1.symm.trans hh.1, he.2.symm.trans hh.2⟩, h2⟩
    · rw [if_neg hk]
      refine List.pairwise_cons.2 ⟨fun b hb hh => ?_, KN.put (L := t) h2⟩
      rcases mem_put hb with rfl | hb
      · exact hk (isK_iff.2 ⟨hh.1.symm, hh.2.symm⟩)
      · exact h1 b hb hh
theorem look_put (e : Ent) (r : Int) (n : List UInt8) : ∀ L : List Ent, look r n (putE e L) = if isK r n e = true then some e else look r n L
  | [] => by
    simp only [putE, look, List.find?_cons, List.find?_nil]
    cases isK r n e <;> rfl
  | x :: t => by
    have ih := look_put e r n t
    simp only [putE]
    by_cases hk : isK e.r e.n x = true
    · rw [if_pos hk]
      have he := isK_iff.1 hk
      have hx : isK r n x = isK r n e := by simp [isK, he.1, he.2]
      simp only [look, List.find?_cons, hx]
      cases isK r n e <;> rfl
    · rw [if_neg hk]
      unfold look at ih ⊢
      simp only [List.find?_cons]
      rw [ih]
      cases h1 : isK r n x <;> cases h2 : isK r n e
      · rfl
      · rfl
      · rfl
      · have a := isK_iff.1 h1
        have b := isK_iff.1 h2
        exact absurd (isK_iff.2 ⟨b.1.symm.trans a.1, b.2.symm.trans a.2⟩) hk
theorem KN.look {L : List Ent} (h : KN L) {e : Ent} (he : e ∈ L) : look e.r e.n L = some e := by
  induction L with
  | nil => cases he
  | cons x t ih =>
    obtain ⟨h1, h2⟩ := List.pairwise_cons.1 h
    unfold Go.Proofs.Ytifgmefdlmjocaa.look
    rw [List.find?_cons]
    rcases List.mem_cons.1 he with rfl | ht
    · rw [show isK e.r e.n e = true from isK_iff.2 ⟨rfl, rfl⟩]
    · have : isK e.r e.n x = false := by
        cases hk : isK e.r e.n x
        · rfl
        · have := isK_iff.1 hk
          exact absurd ⟨this.1.symm, this.2.symm⟩ (h1 e ht)
      rw [this]
      exact ih h2 ht
theorem look_key {r : Int} {n : List UInt8} {L : List Ent} {e : Ent} (h : look r n L = some e) : e ∈ L ∧ e.r = r ∧ e.n = n := by
  have h1 := List.mem_of_find?_eq_some h
  have h2 := isK_iff.1 (List.find?_some h)
  exact ⟨h1, h2.1.symm, h2.2.symm⟩
theorem mem_ins {nm x : List UInt8} : ∀ {l : List (List UInt8)}, x ∈ insN nm l ↔ x = nm ∨ x ∈ l
  | [] => by simp [insN]
  | y :: t => by
    have ih := mem_ins (nm := nm) (x := x) (l := t)
    simp only [insN]
    split
    · simp only [List.mem_cons, ih]
      constructor
      · rintro (h | h | h) <;> simp [h]
      · rintro (h | h | h) <;> simp [h]
    · split
      · rename_i hy
        subst hy
        simp
      · simp
theorem nlt_or {a b : List UInt8} (h : nlt a b = false) : a = b ∨ nlt b a = true := by
  have := nlt_tri a b
  rw [h] at this
  cases h2 : nlt b a
  · rw [h2] at this
    cases h3 : (b == a)
    · rw [h3] at this; cases this
    · have h4 : b = a := by simpa using h3
      exact Or.inl h4.symm
  · exact Or.inr rfl
def Ups (l : List (List UInt8)) : Prop := l.Pairwise fun a b => nlt a b = true
theorem Ups.ins {nm : List UInt8} : ∀ {l : List (List UInt8)}, Ups l → Ups (insN nm l)
  | [], h => List.pairwise_cons.2 ⟨fun _ h => (by cases h), List.Pairwise.nil⟩
  | y :: t, h => by
    obtain ⟨h1, h2⟩ := List.pairwise_cons.1 h
    simp only [insN]
    by_cases c1 : nlt y nm = true
    · rw [if_pos c1]
      refine List.pairwise_cons.2 ⟨fun b hb => ?_, Ups.ins h2⟩
      rcases mem_ins.1 hb with rfl | hb
      · exact c1
      · exact h1 b hb
    · rw [if_neg c1]
      by_cases c2 : y = nm
      · rw [if_pos c2]
        subst c2
        exact h
      · rw [if_neg c2]
        have c3 : nlt nm y = true := (nlt_or (by simpa using c1)).resolve_left c2
        refine List.pairwise_cons.2 ⟨fun b hb => ?_, h⟩
        rcases List.mem_cons.1 hb with rfl | hb
        · exact c3
        · exact nlt_trans _ _ _ c3 (h1 b hb)
theorem nms_ups (r : Int) (A : List Ent) : Ups (nmsL r A) := by
  suffices h : ∀ (A : List Ent) (o : List (List UInt8)), Ups o → Ups (A.foldl (fun o e => if e.r = r then insN e.n o else o) o) from h A [] List.Pairwise.nil
  intro A
  induction A with
  | nil => intro o h; exact h
  | cons e t ih =>
    intro o h
    simp only [List.foldl_cons]
    apply ih
    split
    · exact h.ins
    · exact h
theorem mem_nms (r : Int) (n : List UInt8) (A : List Ent) : n ∈ nmsL r A ↔ ∃ e ∈ A, e.r = r ∧ e.n = n := by
  suffices h : ∀ (A : List Ent) (o : List (List UInt8)), n ∈ A.foldl (fun o e => if e.r = r then insN e.n o else o) o ↔ (n ∈ o ∨ ∃ e ∈ A, e.r = r ∧ e.n = n) from by simpa [nmsL] using h A []
  intro A
  induction A with
  | nil => intro o; simp
  | cons e t ih =>
    intro o
    simp only [List.foldl_cons]
    rw [ih]
    by_cases hr : e.r = r
    · rw [if_pos hr, mem_ins]
      constructor
      · rintro ((h | h) | ⟨x, hx, h⟩)
        · exact Or.inr ⟨e, List.mem_cons_self .., hr, h.symm⟩
        · exact Or.inl h
        · exact Or.inr ⟨x, List.mem_cons_of_mem _ hx, h⟩
      · rintro (h | ⟨x, hx, h⟩)
        · exact Or.inl (Or.inr h)
        · rcases List.mem_cons.1 hx with rfl | hx
          · exact Or.inl (Or.inl h.2.symm)
          · exact Or.inr ⟨x, hx, h⟩
    · rw [if_neg hr]
      constructor
      · rintro (h | ⟨x, hx, h⟩)
        · exact Or.inl h
        · exact Or.inr ⟨x, List.mem_cons_of_mem _ hx, h⟩
      · rintro (h | ⟨x, hx, h⟩)
        · exact Or.inl h
        · rcases List.mem_cons.1 hx with rfl | hx
          · exact absurd h.1 hr
          · exact Or.inr ⟨x, hx, h⟩
theorem ups_ext : ∀ {l m : List (List UInt8)}, Ups l → Ups m → (∀ x, x ∈ l ↔ x ∈ m) → l = m
  | [], [], _, _, _ => rfl
  | [], b :: m, _, _, h => by have := (h b).2 (List.mem_cons_self ..); cases this
  | a :: l, [], _, _, h => by have := (h a).1 (List.mem_cons_self ..); cases this
  | a :: l, b :: m, h1, h2, h => by
    obtain ⟨a1, a2⟩ := List.pairwise_cons.1 h1
    obtain ⟨b1, b2⟩ := List.pairwise_cons.1 h2
    have hab : a = b := by
      rcases List.mem_cons.1 ((h a).1 (List.mem_cons_self ..)) with h3 | h3
      · exact h3
      · rcases List.mem_cons.1 ((h b).2 (List.mem_cons_self ..)) with h4 | h4
        · exact h4.symm
        · have h5 := nlt_trans _ _ _ (b1 a h3) (a1 b h4)
          rw [nlt_irrefl] at h5
          cases h5
    subst hab
    congr 1
    refine ups_ext a2 b2 fun x => ?_
    constructor
    · intro hx
      rcases List.mem_cons.1 ((h x).1 (List.mem_cons_of_mem _ hx)) with h3 | h3
      · subst h3
        have := a1 x hx
        rw [nlt_irrefl] at this
        cases this
      · exact h3
    · intro hx
      rcases List.mem_cons.1 ((h x).2 (List.mem_cons_of_mem _ hx)) with h3 | h3
      · subst h3
        have := b1 x hx
        rw [nlt_irrefl] at this
        cases this
      · exact h3
theorem len_le_sub {α : Type} [DecidableEq α] : ∀ {l m : List α}, l.Nodup → (∀ x ∈ l, x ∈ m) → l.length ≤ m.length
  | [], m, _, _ => Nat.zero_le _
  | a :: t, m, hn, hs => by
    obtain ⟨h1, h2⟩ := List.nodup_cons.1 hn
    have ha := hs a (List.mem_cons_self ..)
    have ih := len_le_sub (l := t) (m := m.erase a) h2 (fun x hx => (List.mem_erase_of_ne (fun e => h1 (by rw [← e]; exact hx))).2 (hs x (List.mem_cons_of_mem _ hx)))
    rw [List.length_erase_of_mem ha] at ih
    have := List.length_pos_of_mem ha
    simp
    omega
end Go.Proofs.Ytifgmefdlmjocaa
namespace Go.Proofs.Ytifgmefdlmjocaa
open Go.RowKit Go.PlainAid Go.MapKept
set_option linter.unusedVariables false
set_option linter.unusedSimpArgs false
structure Ent.good (e : Ent) : Prop where
  n : e.n.length ≤ 16
  c : 1 ≤ e.c ∧ e.c ≤ 1099511627776
  v : 1 ≤ e.v
  d : 0 ≤ e.d
  u : 0 ≤ e.u
  h : 0 ≤ e.h
  s : e.d + e.u + e.h ≤ e.c
theorem right_good {e : Ent} (h : e.right = true) : e.good := by
  unfold Ent.right at h
  rw [fits3] at h
  simp only [Bool.and_eq_true, decide_eq_true_eq, nameB] at h
  obtain ⟨⟨⟨⟨⟨h1, h2⟩, h3⟩, h4⟩, h5⟩, ⟨⟨h6, h7⟩, h8⟩, h9⟩ := h
  exact ⟨h1.1.2, ⟨h2, h3⟩, h5, h6, h7, h8, h9⟩
/-- How the program's views and the document's agree. -/
structure AgC (me : Int) (M : Nat) (L A : List Ent) : Prop where
  ok : ∀ r n, look r n L = lastO r n A
  kn : KN L
  rt : ∀ e ∈ L, e.right = true
  ow : ∀ e ∈ L, e.r = me → e.v ≤ (M : Int)
  ll : L.length ≤ A.length
section
variable {me : Int} {M : Nat} {L A : List Ent}
theorem AgC.new (me : Int) (M : Nat) : AgC me M [] [] := ⟨fun _ _ => rfl, List.Pairwise.nil, (fun _ h => by cases h), (fun _ h => by cases h), Nat.le_refl _⟩
theorem AgC.mono {M' : Nat} (h : AgC me M L A) (hm : M ≤ M') : AgC me M' L A := ⟨h.ok, h.kn, h.rt, fun e he hr => by have := h.ow e he hr; omega, h.ll⟩
theorem AgC.put (h : AgC me M L A) {e : Ent} (hr : e.right = true) (hv : e.r = me → e.v ≤ (M : Int)) : AgC me M (putE e L) (A ++ [e]) := by
  refine ⟨fun r n => ?_, h.kn.put, fun x hx => ?_, fun x hx hh => ?_, ?_⟩
  · rw [look_put, lastO_app, h.ok]
  · rcases mem_put hx with rfl | hx
    · exact hr
    · exact h.rt x hx
  · rcases mem_put hx with rfl | hx
    · exact hv hh
    · exact h.ow x hx hh
  · have := put_len e L
    have := h.ll
    simp
    omega
theorem AgC.d (h : AgC me M L A) (r : Int) (n : List UInt8) : lookD r n L = lastD r n A := by unfold lookD; rw [h.ok, lastD_is]
theorem AgC.is (h : AgC me M L A) (r : Int) (n : List UInt8) : (look r n L).isSome = true ↔ (lastD r n A).v ≠ 0 := by
  rw [← h.d]
  unfold lookD
  cases hq : look r n L with
  | none => simp [zed]
  | some e =>
    have := (right_good (h.rt e (look_key hq).1)).v
    simp
    omega
theorem AgC.cnt (h : AgC me M L A) (r : Int) : cntR r L = (nmsL r A).length := by
  have e1 : cntR r L = ((own r L).map Ent.n).length := by rw [List.length_map]; unfold cntR own; rw [List.countP_eq_length_filter]
  have hmem : ∀ x, x ∈ (own r L).map Ent.n ↔ x ∈ nmsL r A := fun x => by
    rw [mem_nms, ← lastO_mem, ← h.ok, List.mem_map]
    constructor
    · rintro ⟨e, he, rfl⟩
      have h2 := List.mem_filter.1 he
      have hr : e.r = r := by simpa using h2.2
      have := h.kn.look h2.1
      rw [hr] at this
      rw [this]
      rfl
    · intro hs
      obtain ⟨e, he⟩ := Option.isSome_iff_exists.1 hs
      obtain ⟨k1, k2, k3⟩ := look_key he
      exact ⟨e, List.mem_filter.2 ⟨k1, by simpa using k2⟩, k3⟩
  have n1 : ((own r L).map Ent.n).Nodup := by
    unfold List.Nodup
    rw [List.pairwise_map]
    have h2 : (own r L).Pairwise fun a b => ¬ (a.r = b.r ∧ a.n = b.n) := h.kn.filter _
    refine h2.imp_of_mem fun {a b} ha hb hh e => hh ⟨?_, e⟩
    have h3 : a.r = r := by simpa using (List.mem_filter.1 ha).2
    have h4 : b.r = r := by simpa using (List.mem_filter.1 hb).2
    rw [h3, h4]
  have n2 : (nmsL r A).Nodup := (nms_ups r A).imp fun {a b} hh e => by
    subst e
    rw [nlt_irrefl] at hh
    cases hh
  rw [e1]
  exact Nat.le_antisymm (len_le_sub n1 fun x hx => (hmem x).1 hx) (len_le_sub n2 fun x hx => (hmem x).2 hx)
theorem AgC.about (h : AgC me M L A) (n : List UInt8) : ∀ k, aboutS n L k = raboutS n A k ∧ aboutK n L k = raboutK n A k
  | 0 => ⟨rfl, rfl⟩
  | k + 1 => by
    have ih := h.about n k
    have h1 := h.d k n
    have h2 := h.is k n
    refine ⟨by simp only [aboutS, raboutS, ih.1, h1], ?_⟩
    simp only [aboutK, raboutK, ih.2]
    congr 1
    have h3 : 0 ≤ (lastD k n A).v := by
      rw [← h1]
      unfold lookD
      cases hq : look (k : Int) n L with
      | none => simp [zed]
      | some e => have := (right_good (h.rt e (look_key hq).1)).v; simp; omega
    cases hs : (look (k : Int) n L).isSome
    · rw [eq_comm, decide_eq_false_iff_not]
      intro h4
      have := h2.2 (by omega)
      rw [hs] at this
      cases this
    · rw [eq_comm, decide_eq_true_eq]
      have := h2.1 hs
      omega
theorem AgC.known (h : AgC me M L A) (n : List UInt8) (k : Nat) : knownL n L k = rknownL n A k := by
  unfold knownL rknownL
  congr 1
  funext q
  rw [h.d]
theorem AgC.dig (h : AgC me M L A) {ds : List Ent} (ht : Told me L ds) : ds = rdigL me A := by
  obtain ⟨hp, hs⟩ := ht
  have hm : ∀ e, e ∈ ds ↔ e ∈ L ∧ e.r = me := fun e => by rw [hp.mem_iff]; unfold own; rw [List.mem_filter]; simp
  have hk : ds.Pairwise fun a b => ¬ (a.r = b.r ∧ a.n = b.n) := (hp.pairwise_iff (fun {a b} hh e => hh ⟨e.1.symm, e.2.symm⟩)).2 (h.kn.filter _)
  have hu : Ups (ds.map Ent.n) := by
    unfold Ups
    rw [List.pairwise_map]
    have h2 := hs.and hk
    refine h2.imp_of_mem fun {a b} ha hb hh => ?_
    rcases nlt_or hh.1 with e | e
    · exact absurd ⟨((hm a).1 ha).2.trans ((hm b).1 hb).2.symm, e.symm⟩ hh.2
    · exact e
  have he : ds.map Ent.n = nmsL me A := by
    refine ups_ext hu (nms_ups me A) fun x => ?_
    rw [mem_nms, ← lastO_mem, ← h.ok, List.mem_map]
    constructor
    · rintro ⟨e, he, rfl⟩
      obtain ⟨h1, h2⟩ := (hm e).1 he
      have := h.kn.look h1
      rw [h2] at this
      rw [this]
      rfl
    · intro hs
      obtain ⟨e, he⟩ := Option.isSome_iff_exists.1 hs
      obtain ⟨k1, k2, k3⟩ := look_key he
      exact ⟨e, (hm e).2 ⟨k1, k2⟩, k3⟩
  unfold rdigL
  rw [← he, List.map_map]
  conv => lhs; rw [← List.map_id ds]
  refine List.map_congr_left fun e he => ?_
  obtain ⟨h1, h2⟩ := (hm e).1 he
  have := h.kn.look h1
  rw [h2] at this
  show e = lastD me e.n A
  rw [← h.d]
  unfold lookD
  rw [this]
  rfl
theorem AgC.tell (h : AgC me M L A) (n : List UInt8) (c rc d u hh : Int) : tellCode me L ⟨me, n, c, rc, 1, d, u, hh⟩ = rtellCode me A ⟨me, n, c, rc, 1, d, u, hh⟩ ∧ AgC me (M + 1) (tellNext me L ⟨me, n, c, rc, 1, d, u, hh⟩) (rtellNext me A ⟨me, n, c, rc, 1, d, u, hh⟩) ∧ (rtellNext me A ⟨me, n, c, rc, 1, d, u, hh⟩).length ≤ A.length + 1 := by
  have hc := h.cnt me
  have hd := h.d me n
  have hi := h.is me n
  have hm := h.mono (Nat.le_succ M)
  unfold tellCode rtellCode tellNext rtellNext
  simp only
  by_cases hr : Ent.right ⟨me, n, c, rc, 1, d, u, hh⟩ = false
  · simp only [if_pos hr]
    exact ⟨trivial, hm, Nat.le_succ _⟩
  · simp only [if_neg hr]
    replace hr : Ent.right ⟨me, n, c, rc, 1, d, u, hh⟩ = true := by simpa using hr
    by_cases hs : (look me n L).isSome = true
    · have hv := hi.1 hs
      have hno : ¬ ((lastD me n A).v = 0 ∧ 64 ≤ (nmsL me A).length) := fun e => hv e.1
      simp only [if_pos hs, if_neg hno]
      refine ⟨trivial, ?_⟩
      rw [hd]
      obtain ⟨l, hl⟩ := Option.isSome_iff_exists.1 hs
      obtain ⟨k1, k2, k3⟩ := look_key hl
      have hle : lastD me n A = l := by rw [← hd]; unfold lookD; rw [hl]; rfl
      rw [hle]
      have hg := right_good (h.rt l k1)
      have hov := h.ow l k1 k2
      by_cases hq : rsame l ⟨me, n, c, rc, 1, d, u, hh⟩
      · have hq2 : sameV ⟨me, n, c, rc, l.v, d, u, hh⟩ l = true := by
          obtain ⟨_, q1, q2, q3, q4, q5⟩ := hq
          simp only at q1 q2 q3 q4 q5
          simp [sameV, k3, q1, q2, q3, q4, q5]
        rw [if_pos hq2, if_pos hq]
        exact ⟨hm, Nat.le_succ _⟩
      · have hq2 : ¬ sameV ⟨me, n, c, rc, l.v, d, u, hh⟩ l = true := fun hq3 => hq (by
          simp [sameV] at hq3
          obtain ⟨⟨⟨⟨⟨q0, q1⟩, q2⟩, q3⟩, q4⟩, q5⟩ := hq3
          exact ⟨by have := hg.v; omega, q1.symm, q2.symm, q3.symm, q4.symm, q5.symm⟩)
        rw [if_neg hq2, if_neg hq]
        refine ⟨hm.put (e := ⟨me, n, c, rc, l.v + 1, d, u, hh⟩) ?_ (fun _ => by simp only; omega), by simp⟩
        have hg2 := right_good hr
        have hg3 : decide (1 ≤ l.v + 1) = true := by have := hg.v; simp; omega
        unfold Ent.right at hr ⊢
        simp only at hr ⊢
        rw [hg3]
        simpa using hr
    · have hv : (lastD me n A).v = 0 := by
        cases Decidable.em ((lastD me n A).v = 0) with
        | inl e => exact e
        | inr e => exact absurd (hi.2 e) hs
      simp only [if_neg hs]
      by_cases hf : 64 ≤ cntR me L
      · have hf2 : (lastD me n A).v = 0 ∧ 64 ≤ (nmsL me A).length := ⟨hv, by omega⟩
        simp only [if_pos hf, if_pos hf2]
        exact ⟨trivial, hm, Nat.le_succ _⟩
      · have hf2 : ¬ ((lastD me n A).v = 0 ∧ 64 ≤ (nmsL me A).length) := fun e => hf (by omega)
        have hq : ¬ rsame (lastD me n A) ⟨me, n, c, rc, 1, d, u, hh⟩ := fun e => by have := e.1; omega
        simp only [if_neg hf, if_neg hf2, if_neg hq]
        refine ⟨trivial, ?_, by simp⟩
        rw [hv]
        exact hm.put (e := ⟨me, n, c, rc, 1, d, u, hh⟩) hr (fun _ => by simp only; omega)
theorem right_re {e : Ent} (h : e.right = true) (r : Int) : Ent.right { e with r := r } = true := h
theorem AgC.fold {r : Int} (hr : r ≠ me) : ∀ (es : List Ent) (L A : List Ent) (k : Nat), (∀ e ∈ es, e.right = true) → AgC me M L A →
    (es.foldl (takeStep r) (L, k)).2 = (es.foldl (rtakeStep r) (A, k)).2 ∧ AgC me M (es.foldl (takeStep r) (L, k)).1 (es.foldl (rtakeStep r) (A, k)).1 ∧ (es.foldl (rtakeStep r) (A, k)).1.length ≤ A.length + es.length
  | [], L, A, k, _, h => ⟨rfl, h, Nat.le_refl _⟩
  | e :: t, L, A, k, he, h => by
    simp only [List.foldl_cons]
    have hd := h.d r e.n
    by_cases hv : (lookD r e.n L).v < e.v
    · have e1 : takeStep r (L, k) e = (putE { e with r := r } L, k + 1) := by unfold takeStep; rw [if_pos hv]
      have e2 : rtakeStep r (A, k) e = (A ++ [{ e with r := r }], k + 1) := by unfold rtakeStep; rw [if_pos (by rw [← hd]; exact hv)]
      rw [e1, e2]
      obtain ⟨a, b, c⟩ := AgC.fold hr t _ _ (k + 1) (fun x hx => he x (List.mem_cons_of_mem _ hx)) (h.put (right_re (he e (List.mem_cons_self ..)) r) (fun e => absurd e hr))
      refine ⟨a, b, ?_⟩
      simp at c ⊢
      omega
    · have e1 : takeStep r (L, k) e = (L, k) := by unfold takeStep; rw [if_neg hv]
      have e2 : rtakeStep r (A, k) e = (A, k) := by unfold rtakeStep; rw [if_neg (by rw [← hd]; exact hv)]
      rw [e1, e2]
      obtain ⟨a, b, c⟩ := AgC.fold hr t _ _ k (fun x hx => he x (List.mem_cons_of_mem _ hx)) h
      refine ⟨a, b, ?_⟩
      simp at c ⊢
      omega
theorem AgC.take (h : AgC me M L A) (N r : Int) (es : List Ent) : takeCode me N r L es = rtakeCode me N r A es ∧ (takeNext me N r L es).2 = (rtakeNext me N r A es).2 ∧ AgC me M (takeNext me N r L es).1 (rtakeNext me N r A es).1 ∧ (rtakeNext me N r A es).1.length ≤ A.length + 64 := by
  have hc := h.cnt r
  have hst : strangeC r L es = rfresh r A es := by
    unfold strangeC rfresh
    refine List.countP_congr fun e _ => ?_
    have := h.is r e.n
    cases hl : look r e.n L with
    | none =>
      rw [hl] at this
      simp at this
      simp [this]
    | some y =>
      rw [hl] at this
      simp at this
      simp [this]
  have e1 : takeCode me N r L es = rtakeCode me N r A es := by unfold takeCode rtakeCode; rw [hc, hst]
  refine ⟨e1, ?_⟩
  unfold takeNext rtakeNext
  rw [e1]
  by_cases h0 : rtakeCode me N r A es = 0
  · simp only [if_pos h0]
    unfold rtakeCode at h0
    split at h0
    · cases h0
    · rename_i g1
      split at h0
      · cases h0
      · rename_i g2
        split at h0
        · cases h0
        · rename_i g3
          have hdg : Dig es := dgB_iff.1 (by simpa using g3)
          obtain ⟨a, b, c⟩ := AgC.fold (me := me) (fun e => g1 (Or.inr (Or.inr e))) es L A 0 hdg.1 h
          exact ⟨a, b, Nat.le_trans c (by omega)⟩
  · simp only [if_neg h0]
    exact ⟨trivial, h, by omega⟩
end
end Go.Proofs.Ytifgmefdlmjocaa
