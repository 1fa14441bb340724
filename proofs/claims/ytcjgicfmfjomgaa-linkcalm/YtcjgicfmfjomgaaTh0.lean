import Derived.Test.YtcjgicfmfjomgaaTak2
namespace Go.Proofs.Ytcjgicfmfjomgaa
open Go.RowKit Go.PlainAid Go.MapKept
set_option linter.unusedVariables false
set_option linter.unusedSimpArgs false
/-- What a segment that came leaves, by values. -/
def TakeEq (x : LV) (q a : Int) (s : List UInt8) (ds : List Dv) (x' : LV) : Prop := if q = 0 then ds = [] ∧ x' = x.ack a else ∃ x1, WaitTo { x.ack a with owed := true } q s x1 ∧ ds = (handed x1.early.length x1.next x1.early).1 ∧ x' = x1.at_ (handed x1.early.length x1.next x1.early).2.1 (handed x1.early.length x1.next x1.early).2.2
def keysD (E : List (Int × Dv)) : List Int := E.map Prod.fst
theorem atD_mem {n : Int} {d : Dv} : ∀ {E : List (Int × Dv)}, atD n E = some d → (n, d) ∈ E
  | [], h => by cases h
  | p :: t, h => by
    unfold atD at h
    by_cases e : n = p.1
    · simp [e] at h
      rw [e, ← h]
      exact List.mem_cons_self
    · simp only [List.find?_cons, decide_eq_false e] at h
      exact List.mem_cons_of_mem _ (atD_mem (E := t) h)
theorem rmD_sub (n : Int) (E : List (Int × Dv)) : List.Sublist (rmD n E) E := List.eraseP_sublist
theorem rmD_not {n : Int} {d : Dv} : ∀ {E : List (Int × Dv)}, (keysD E).Nodup → atD n E = some d → ∀ p ∈ rmD n E, p.1 ≠ n
  | [], _, h => by cases h
  | p :: t, hn, h => by
    unfold keysD at hn
    rw [List.map_cons, List.nodup_cons] at hn
    intro p' hp'
    unfold rmD at hp'
    by_cases e : n = p.1
    · simp only [List.eraseP_cons, decide_eq_true e, cond_true] at hp'
      intro e2
      exact hn.1 (by rw [← e, ← e2]; exact List.mem_map_of_mem hp')
    · simp only [List.eraseP_cons, decide_eq_false e, cond_false] at hp'
      unfold atD at h
      simp only [List.find?_cons, decide_eq_false e] at h
      rcases List.mem_cons.1 hp' with q | q
      · rw [q]; exact fun e2 => e e2.symm
      · exact rmD_not (E := t) hn.2 h p' q
/-- What is handed up: in turn, of what waits. -/
theorem handed_spec : ∀ (f : Nat) (n : Int) (E : List (Int × Dv)), (keysD E).Nodup → (∀ p ∈ E, n ≤ p.1) →
    (handed f n E).2.1 = n + ((handed f n E).1.length : Int) ∧ (∀ (m : Nat) (d : Dv), (handed f n E).1[m]? = some d → (n + (m : Int), d) ∈ E) ∧ List.Sublist (handed f n E).2.2 E ∧ ∀ p ∈ (handed f n E).2.2, (handed f n E).2.1 ≤ p.1
  | 0, n, E, hk, hE => ⟨by simp [handed], (fun m d h => by simp [handed] at h), List.Sublist.refl _, fun p hp => hE p hp⟩
  | f + 1, n, E, hk, hE => by
    cases h : atD n E with
    | none =>
      rw [handed_none h]
      exact ⟨by simp, (fun m d h => by simp at h), List.Sublist.refl _, fun p hp => hE p hp⟩
    | some d =>
      have hs := rmD_sub n E
      have ih := handed_spec f (n + 1) (rmD n E) (hk.sublist (hs.map Prod.fst)) (fun p hp => by
        have h1 := hE p (hs.subset hp)
        have h2 := rmD_not hk h p hp
        omega)
      simp only [handed, h]
      refine ⟨?_, fun m d' hm => ?_, ih.2.2.1.trans hs, ih.2.2.2⟩
      · rw [ih.1]
        simp only [List.length_cons]
        omega
      · cases m with
        | zero =>
          simp only [List.getElem?_cons_zero, Option.some.injEq] at hm
          subst hm
          simpa using atD_mem h
        | succ m =>
          simp only [List.getElem?_cons_succ] at hm
          have := ih.2.1 m d' hm
          have h3 := hs.subset this
          rwa [show n + ((m + 1 : Nat) : Int) = n + 1 + (m : Int) from by omega]
/-- With room for all that waits, what is in turn is handed up whole. -/
theorem handed_end : ∀ (f : Nat) (n : Int) (E : List (Int × Dv)), E.length ≤ f → atD (handed f n E).2.1 (handed f n E).2.2 = none
  | 0, n, E, h => by
    obtain rfl : E = [] := List.eq_nil_of_length_eq_zero (by omega)
    rfl
  | f + 1, n, E, hl => by
    cases h : atD n E with
    | none => rw [handed_none h]; exact h
    | some d =>
      simp only [handed, h]
      exact handed_end f (n + 1) (rmD n E) (by have := (rm_perm h).2; omega)
/-- Of numbers within m in a row, each once, there are m at most. -/
theorem few : ∀ (m : Nat) (n : Int) (l : List Int), l.Nodup → (∀ k ∈ l, n ≤ k ∧ k < n + (m : Int)) → l.length ≤ m
  | 0, n, l, _, h => by
    cases l with
    | nil => exact Nat.le_refl _
    | cons a t =>
      have := h a List.mem_cons_self
      omega
  | m + 1, n, l, hn, h => by
    have ih := few m n (l.erase (n + (m : Int))) (hn.sublist List.erase_sublist) (fun k hk => by
      have h1 := h k (List.mem_of_mem_erase hk)
      have h2 : k ≠ n + (m : Int) := fun e => by
        rw [e] at hk
        exact (List.Nodup.not_mem_erase hn) hk
      omega)
    have h3 : l.length ≤ (l.erase (n + (m : Int))).length + 1 := by
      rw [List.length_erase]
      split <;> omega
    omega
/-- One direction: x sends, y hears; I: what was handed in at x; o: how much of it came out at y. -/
structure Dir (x y : LV) (I : List (List UInt8)) (o a : Nat) : Prop where
  ack : x.acked = (a : Int)
  rest : I.drop a = x.under.map Dv.s ++ x.box.map Dv.s
  al : a ≤ I.length
  ao : a ≤ o
  go : o ≤ a + x.under.length
  nx : y.next = (o : Int) + 1
  er : ∀ p ∈ y.early, (o : Int) + 1 ≤ p.1 ∧ p.1 < (o : Int) + 1 + (y.win : Int) ∧ p.1 ≤ (a : Int) + (x.under.length : Int) ∧ I[(p.1 - 1).toNat]? = some p.2.s
  kn : (keysD y.early).Nodup
  ln : ∀ s ∈ I, s.length ≤ 4000
theorem Dir.len {x y : LV} {I : List (List UInt8)} {o a : Nat} (h : Dir x y I o a) : I.length = a + x.under.length + x.box.length := by
  have := congrArg List.length h.rest
  simp at this
  have := h.al
  omega
theorem Dir.few {x y : LV} {I : List (List UInt8)} {o a : Nat} (h : Dir x y I o a) : y.early.length ≤ y.win := by
  have := Go.Proofs.Ytcjgicfmfjomgaa.few y.win ((o : Int) + 1) (keysD y.early) h.kn (fun k hk => by
    obtain ⟨p, hp, rfl⟩ := List.mem_map.1 hk
    exact ⟨(h.er p hp).1, (h.er p hp).2.1⟩)
  simpa [keysD] using this
/-- A segment of an end at which I was handed in and gn have gone: its number, what it acknowledges, its data. -/
def SegOk (I : List (List UInt8)) (gn o' : Nat) (q k : Int) (s : List UInt8) : Prop := 0 ≤ k ∧ k ≤ (o' : Int) ∧ 0 ≤ q ∧ q ≤ (gn : Int) ∧ (q = 0 → s = []) ∧ (q ≠ 0 → I[(q - 1).toNat]? = some s)
/-- The other direction: what is acknowledged goes. -/
theorem Dir.acks {x y : LV} {J : List (List UInt8)} {o b : Nat} (h : Dir y x J o b) (k : Int) (hk0 : 0 ≤ k) (hk : k ≤ (o : Int)) : ∃ b', Dir (y.ack k) x J o b' ∧ b ≤ b' := by
  unfold LV.ack
  split
  · exact ⟨b, h, Nat.le_refl _⟩
  · rename_i hlt
    rw [h.ack] at hlt
    have hgo := h.go
    obtain ⟨j, hj⟩ : ∃ j : Nat, k = (b : Int) + (j : Int) := ⟨(k - (b : Int)).toNat, by omega⟩
    have hju : j ≤ y.under.length := by omega
    have e1 : (k - y.acked).toNat = j := by rw [h.ack]; omega
    have hlen := h.len
    refine ⟨b + j, ⟨show k = ((b + j : Nat) : Int) from by omega, ?_, by omega, by omega, ?_, h.nx, fun p hp => ?_, h.kn, h.ln⟩, by omega⟩
    · rw [← List.drop_drop, h.rest]
      simp only [e1]
      rw [List.drop_append_of_le_length (by rw [List.length_map]; exact hju), List.map_drop]
    · simp only [e1, List.length_drop]
      omega
    · have := h.er p hp
      refine ⟨this.1, this.2.1, ?_, this.2.2.2⟩
      simp only [e1, List.length_drop]
      omega
/-- This direction: what came waits, and what is in turn is handed up. -/
theorem Dir.takes {x y y' : LV} {I : List (List UInt8)} {o a o' : Nat} {q k : Int} {s : List UInt8} {ds : List Dv} (h : Dir x y I o a) (hs : SegOk I (a + x.under.length) o' q k s) (ht : TakeEq y q k s ds y') :
    Dir x y' I (o + ds.length) a ∧ (∀ m d, ds[m]? = some d → I[o + m]? = some d.s) ∧ o + ds.length ≤ a + x.under.length ∧ y'.win = y.win := by
  unfold TakeEq at ht
  by_cases hq : q = 0
  · rw [if_pos hq] at ht
    obtain ⟨rfl, rfl⟩ := ht
    have hk := ack_next y k
    exact ⟨⟨h.ack, h.rest, h.al, h.ao, h.go, hk.1.trans h.nx, fun p hp => by rw [hk.2.2]; exact h.er p (by rw [← hk.2.1]; exact hp), by rw [hk.2.1]; exact h.kn, h.ln⟩, (fun m d hm => by simp at hm), h.go, hk.2.2⟩
  · rw [if_neg hq] at ht
    obtain ⟨x1, hw, hds, hy⟩ := ht
    have hk := ack_next y k
    obtain ⟨s1, s2, s3, s4, s5, s6⟩ := hs
    have h1 : x1.next = y.next ∧ x1.win = y.win ∧ (keysD x1.early).Nodup ∧ ∀ p ∈ x1.early, (o : Int) + 1 ≤ p.1 ∧ p.1 < (o : Int) + 1 + (y.win : Int) ∧ p.1 ≤ (a : Int) + (x.under.length : Int) ∧ I[(p.1 - 1).toNat]? = some p.2.s := by
      unfold WaitTo at hw
      split at hw
      · rename_i hm
        obtain ⟨v', rfl⟩ := hw
        unfold mayWait at hm
        simp only [Bool.and_eq_true, decide_eq_true_eq] at hm
        obtain ⟨⟨m1, m2⟩, m3⟩ := hm
        rw [show ({ y.ack k with owed := true } : LV).next = y.next from hk.1, h.nx] at m1 m2
        rw [show ({ y.ack k with owed := true } : LV).win = y.win from hk.2.2] at m2
        rw [show ({ y.ack k with owed := true } : LV).early = y.early from hk.2.1] at m3
        have e1 : (({ y.ack k with owed := true } : LV).wait q ⟨v', s⟩).early = y.early ++ [(q, ⟨v', s⟩)] := by
          show (y.ack k).early ++ _ = _
          rw [hk.2.1]
        refine ⟨hk.1, hk.2.2, ?_, fun p hp => ?_⟩
        · rw [e1]
          unfold keysD
          rw [List.map_append, List.nodup_append]
          refine ⟨h.kn, by simp, ?_⟩
          intro c hc d hd e
          simp at hd
          subst hd
          subst e
          obtain ⟨p, hp, e2⟩ := List.mem_map.1 hc
          simp at m3
          exact m3 p.1 p.2 hp e2
        · rw [e1] at hp
          rcases List.mem_append.1 hp with hp | hp
          · exact h.er p hp
          · rw [List.mem_singleton.1 hp]
            exact ⟨m1, m2, by omega, s6 hq⟩
      · subst hw
        exact ⟨hk.1, hk.2.2, by rw [show ({ y.ack k with owed := true } : LV).early = y.early from hk.2.1]; exact h.kn, fun p hp => h.er p (by rw [← hk.2.1]; exact hp)⟩
    obtain ⟨n1, n2, n3, n4⟩ := h1
    have hh := handed_spec x1.early.length x1.next x1.early n3 (fun p hp => by rw [n1, h.nx]; exact (n4 p hp).1)
    rw [← hds] at hh
    have hat : ∀ m d, ds[m]? = some d → I[o + m]? = some d.s ∧ (o : Int) + 1 + (m : Int) ≤ (a : Int) + (x.under.length : Int) := fun m d hm => by
      have h2 := hh.2.1 m d hm
      rw [n1, h.nx] at h2
      have h3 := n4 _ h2
      refine ⟨?_, h3.2.2.1⟩
      have h4 := h3.2.2.2
      rwa [show ((o : Int) + 1 + (m : Int) - 1).toNat = o + m from by omega] at h4
    have hgo : o + ds.length ≤ a + x.under.length := by
      cases hl : ds.length with
      | zero => have := h.go; omega
      | succ m =>
        have hm : m < ds.length := by omega
        have := (hat m ds[m] (List.getElem?_eq_getElem hm)).2
        omega
    refine ⟨⟨h.ack, h.rest, h.al, by have := h.ao; omega, hgo, ?_, fun p hp => ?_, ?_, h.ln⟩, fun m d hm => (hat m d hm).1, hgo, ?_⟩
    · rw [hy]
      show (handed x1.early.length x1.next x1.early).2.1 = _
      rw [hh.1, n1, h.nx]
      omega
    · rw [hy] at hp ⊢
      have hp' : p ∈ (handed x1.early.length x1.next x1.early).2.2 := hp
      have h2 := n4 p (hh.2.2.1.subset hp')
      have h3 := hh.2.2.2 p hp'
      rw [hh.1, n1, h.nx] at h3
      refine ⟨by omega, ?_, h2.2.2⟩
      show p.1 < _ + 1 + (x1.win : Int)
      rw [n2]
      omega
    · rw [hy]
      exact n3.sublist (hh.2.2.1.map Prod.fst)
    · rw [hy]; exact n2
theorem SegOk.mono {I I' : List (List UInt8)} {g g' o o' : Nat} {q k : Int} {s : List UInt8} (h : SegOk I g o q k s) (hI : I <+: I') (hg : g ≤ g') (ho : o ≤ o') : SegOk I' g' o' q k s := by
  obtain ⟨h1, h2, h3, h4, h5, h6⟩ := h
  refine ⟨h1, by omega, h3, by omega, h5, fun hq => ?_⟩
  obtain ⟨t, rfl⟩ := hI
  have := h6 hq
  rw [List.getElem?_append_left (List.getElem?_eq_some_iff.1 this).1]
  exact this
theorem Dir.hears {x y y' : LV} {I : List (List UInt8)} {o a : Nat} (h : Dir x y I o a) (e1 : y'.next = y.next) (e2 : y'.early = y.early) (e3 : y'.win = y.win) : Dir x y' I o a :=
  ⟨h.ack, h.rest, h.al, h.ao, h.go, e1.trans h.nx, by rw [e2, e3]; exact h.er, by rw [e2]; exact h.kn, h.ln⟩
theorem Dir.sends {x x' y : LV} {I I' : List (List UInt8)} {o a : Nat} (h : Dir x y I o a) (e1 : x'.acked = x.acked) (e2 : I'.drop a = x'.under.map Dv.s ++ x'.box.map Dv.s) (e3 : x.under.length ≤ x'.under.length) (e4 : I <+: I') (hl : ∀ s ∈ I', s.length ≤ 4000) : Dir x' y I' o a := by
  have hal := h.al
  have hpl := e4.length_le
  refine ⟨e1.trans h.ack, e2, by omega, h.ao, by have := h.go; omega, h.nx, fun p hp => ?_, h.kn, hl⟩
  obtain ⟨a1, a2, a3, a4⟩ := h.er p hp
  refine ⟨a1, a2, by omega, ?_⟩
  obtain ⟨t, rfl⟩ := e4
  rw [List.getElem?_append_left (List.getElem?_eq_some_iff.1 a4).1]
  exact a4
theorem Dir.push {x y : LV} {I : List (List UInt8)} {o a : Nat} (h : Dir x y I o a) (v : Value) (s : List UInt8) (hs : s.length ≤ 4000) : Dir (x.push ⟨v, s⟩) y (I ++ [s]) o a := by
  refine h.sends rfl ?_ (Nat.le_refl _) ⟨[s], rfl⟩ (fun s' hs' => ?_)
  · rw [List.drop_append_of_le_length h.al, h.rest]
    simp [LV.push]
  · rcases List.mem_append.1 hs' with q | q
    · exact h.ln s' q
    · rw [List.mem_singleton.1 q]; exact hs
theorem Dir.out {x y : LV} {I : List (List UInt8)} {o a : Nat} (h : Dir x y I o a) : Dir (x.calm.moved x.box.length) y I o a := by
  refine h.sends rfl ?_ ?_ (List.prefix_refl _) h.ln
  · rw [h.rest]
    simp [LV.calm, LV.moved]
  · simp [LV.calm, LV.moved]
theorem tell_at' (a b c : Int) : ∀ (q : Int) (ss : List (List UInt8)) (k : Nat) (s : List UInt8), ss[k]? = some s → (tell a b c q ss)[k]? = some (a, b, q + (k : Int), c, s)
  | q, [], k, s, h => by simp at h
  | q, s0 :: ss, 0, s, h => by
    simp only [List.getElem?_cons_zero, Option.some.injEq] at h
    subst h
    simp [tell]
  | q, s0 :: ss, k + 1, s, h => by
    simp only [List.getElem?_cons_succ] at h
    simp only [tell, List.getElem?_cons_succ]
    rw [tell_at' a b c (q + 1) ss k s h]
    congr 4
    simp
    omega
theorem tell_mem {me peer ack : Int} {r : Int × Int × Int × Int × List UInt8} : ∀ {q : Int} {ss : List (List UInt8)}, r ∈ tell me peer ack q ss → ∃ (m : Nat) (s : List UInt8), ss[m]? = some s ∧ r = (me, peer, q + (m : Int), ack, s) := fun {q ss} hr => by
  obtain ⟨m, hm⟩ := List.getElem?_of_mem hr
  have hl := (List.getElem?_eq_some_iff.1 hm).1
  rw [tell_len] at hl
  have h2 := tell_at' me peer ack q ss m ss[m] (List.getElem?_eq_getElem hl)
  rw [hm] at h2
  exact ⟨m, ss[m], List.getElem?_eq_getElem hl, Option.some.inj h2⟩
/-- What Out tells: segments of this end. -/
theorem Dir.tells {x y : LV} {I : List (List UInt8)} {o a o' : Nat} (h : Dir x y I o a) (hn : x.next = (o' : Int) + 1) {r : Int × Int × Int × Int × List UInt8} (hr : r ∈ outTells x) :
    r.1 = x.me ∧ r.2.1 = x.peer ∧ SegOk I (a + x.under.length + x.box.length) o' r.2.2.1 r.2.2.2.1 r.2.2.2.2 := by
  have hin : ∀ m s, (x.under.map Dv.s ++ x.box.map Dv.s)[m]? = some s → I[a + m]? = some s := fun m s hm => by
    rw [← h.rest, List.getElem?_drop] at hm
    exact hm
  have hak := h.ack
  unfold outTells at hr
  rcases List.mem_append.1 hr with hr | hr
  · rcases List.mem_append.1 hr with hr | hr
    · split at hr
      · rw [List.mem_singleton.1 hr]
        exact ⟨rfl, rfl, by show 0 ≤ x.next - 1; omega, by show x.next - 1 ≤ _; omega, Int.le_refl _, by show (0 : Int) ≤ _; omega, fun _ => rfl, fun e => absurd rfl e⟩
      · cases hr
    · split at hr
      · obtain ⟨m, s, hm, rfl⟩ := tell_mem hr
        have hl := (List.getElem?_eq_some_iff.1 hm).1
        rw [List.length_map] at hl
        refine ⟨rfl, rfl, by show 0 ≤ x.next - 1; omega, by show x.next - 1 ≤ _; omega, by show 0 ≤ x.acked + 1 + (m : Int); omega, by show x.acked + 1 + (m : Int) ≤ _; omega, (fun e => by have e' : x.acked + 1 + (m : Int) = 0 := e; omega), fun _ => ?_⟩
        show I[(x.acked + 1 + (m : Int) - 1).toNat]? = some s
        rw [show (x.acked + 1 + (m : Int) - 1).toNat = a + m from by omega]
        exact hin m s (by rw [List.getElem?_append_left (by rw [List.length_map]; exact hl)]; exact hm)
      · cases hr
  · obtain ⟨m, s, hm, rfl⟩ := tell_mem hr
    have hl := (List.getElem?_eq_some_iff.1 hm).1
    rw [List.length_map] at hl
    refine ⟨rfl, rfl, by show 0 ≤ x.next - 1; omega, by show x.next - 1 ≤ _; omega, by show 0 ≤ x.acked + (x.under.length : Int) + 1 + (m : Int); omega, by show x.acked + (x.under.length : Int) + 1 + (m : Int) ≤ _; omega, (fun e => by have e' : x.acked + (x.under.length : Int) + 1 + (m : Int) = 0 := e; omega), fun _ => ?_⟩
    show I[(x.acked + (x.under.length : Int) + 1 + (m : Int) - 1).toNat]? = some s
    rw [show (x.acked + (x.under.length : Int) + 1 + (m : Int) - 1).toNat = a + (x.under.length + m) from by omega]
    refine hin _ s ?_
    rw [List.getElem?_append_right (by rw [List.length_map]; omega), List.length_map, Nat.add_sub_cancel_left]
    exact hm
end Go.Proofs.Ytcjgicfmfjomgaa
