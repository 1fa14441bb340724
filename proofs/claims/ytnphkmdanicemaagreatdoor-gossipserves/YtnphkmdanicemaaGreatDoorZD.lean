import Derived.Test.YtnphkmdanicemaaGreatDoorZC
namespace Go.Proofs.YtnphkmdanicemaaGreatDoor
open Go.RowKit Go.PlainAid
set_option linter.unusedVariables false
set_option linter.unusedSimpArgs false
theorem sum_set {α : Type} (f : α → Int) : ∀ (l : List α) (i : Nat) (a b : α), l[i]? = some a → ((l.set i b).map f).sum = (l.map f).sum - f a + f b
  | [], _, _, _, h => by simp at h
  | x :: t, 0, a, b, h => by
    simp at h
    subst h
    simp
    omega
  | x :: t, i + 1, a, b, h => by
    have := sum_set f t i a b (by simpa using h)
    simp only [List.set_cons_succ, List.map_cons, List.sum_cons] at this ⊢
    omega
theorem sum_nonneg {α : Type} (f : α → Int) : ∀ (l : List α), (∀ a ∈ l, 0 ≤ f a) → 0 ≤ (l.map f).sum
  | [], _ => by simp
  | x :: t, h => by
    have := sum_nonneg f t (fun a ha => h a (List.mem_cons_of_mem _ ha))
    have := h x (List.mem_cons_self ..)
    simp only [List.map_cons, List.sum_cons]
    omega
theorem sum_one {α : Type} (f : α → Int) : ∀ (l : List α) (i : Nat) (a : α), (∀ a ∈ l, 0 ≤ f a) → l[i]? = some a → f a ≤ (l.map f).sum
  | [], _, _, _, h => by simp at h
  | x :: t, 0, a, hn, h => by
    simp at h
    subst h
    have := sum_nonneg f t (fun a ha => hn a (List.mem_cons_of_mem _ ha))
    simp only [List.map_cons, List.sum_cons]
    omega
  | x :: t, i + 1, a, hn, h => by
    have := sum_one f t i a (fun a ha => hn a (List.mem_cons_of_mem _ ha)) (by simpa using h)
    have := hn x (List.mem_cons_self ..)
    simp only [List.map_cons, List.sum_cons]
    omega
theorem sum_two {α : Type} (f : α → Int) : ∀ (l : List α) (i j : Nat) (a b : α), (∀ a ∈ l, 0 ≤ f a) → i ≠ j → l[i]? = some a → l[j]? = some b → f a + f b ≤ (l.map f).sum
  | [], _, _, _, _, _, _, h, _ => by simp at h
  | x :: t, 0, 0, _, _, _, h, _, _ => absurd rfl h
  | x :: t, 0, j + 1, a, b, hn, _, h1, h2 => by
    simp at h1
    subst h1
    have := sum_one f t j b (fun a ha => hn a (List.mem_cons_of_mem _ ha)) (by simpa using h2)
    simp only [List.map_cons, List.sum_cons]
    omega
  | x :: t, i + 1, 0, a, b, hn, _, h1, h2 => by
    simp at h2
    subst h2
    have := sum_one f t i a (fun a ha => hn a (List.mem_cons_of_mem _ ha)) (by simpa using h1)
    simp only [List.map_cons, List.sum_cons]
    omega
  | x :: t, i + 1, j + 1, a, b, hn, hne, h1, h2 => by
    have := sum_two f t i j a b (fun a ha => hn a (List.mem_cons_of_mem _ ha)) (by omega) (by simpa using h1) (by simpa using h2)
    have := hn x (List.mem_cons_self ..)
    simp only [List.map_cons, List.sum_cons]
    omega
theorem sum_took (f : Pl → Int) (hf : ∀ p V, f { p with V := V } = f p) (N : Int) (w0 : Nat) (x : Ent) (i : Nat) (ps : List Pl) : (tookL N w0 x i ps).map f = ps.map f := by
  apply List.ext_getElem?
  intro j
  rw [List.getElem?_map, List.getElem?_map, tookL_at]
  cases ps[j]? with
  | none => rfl
  | some p =>
    simp only [Option.map_some]
    split
    · rw [show f (p.took N (j : Int) (w0 : Int) x) = f p from hf p _]
    · rfl
/-- What a replica lacks. -/
def lkOk (L : GL) : Prop := Gm.KD L ∧ (0 ≤ (lk K1 L).1 ∧ (lk K1 L).1 ≤ 1000) ∧ 0 ≤ (lk K1 L).2 ∧ (lk K1 L).2 ≤ 1000
theorem lkOk_nil : lkOk [] := ⟨List.Pairwise.nil, ⟨by show (0 : Int) ≤ 0; decide, by show (0 : Int) ≤ 1000; decide⟩, by show (0 : Int) ≤ 0; decide, by show (0 : Int) ≤ 1000; decide⟩
theorem lkOk_rm {L : GL} (h : lkOk L) : lkOk (Gm.rmK K1 L) ∧ lk K1 (Gm.rmK K1 L) = (0, 0) := by
  have h1 : lk K1 (Gm.rmK K1 L) = (0, 0) := by rw [lk_rmK K1 K1 h.1, if_pos rfl]
  refine ⟨⟨h.1.rmK, ?_, ?_⟩, h1⟩ <;> rw [h1] <;> exact ⟨by decide, by decide⟩
theorem lkOk_need {L : GL} (h : lkOk L) {a b : Int} (ha : 0 ≤ a ∧ a ≤ 1000) (hb : 0 ≤ b ∧ b ≤ 1000) : lkOk (needN K1 a b L) ∧ lk K1 (needN K1 a b L) = (max (lk K1 L).1 a, max (lk K1 L).2 b) := by
  have oa : okC a = true := by simp [okC]; omega
  have ob : okC b = true := by simp [okC]; omega
  have h1 : lk K1 (needN K1 a b L) = (max (lk K1 L).1 a, max (lk K1 L).2 b) := by rw [lk_need, if_pos ⟨rfl, oa, ob⟩]
  have h2 := h.2.1
  have h3 := h.2.2
  refine ⟨⟨need_kd h.1, ?_, ?_⟩, h1⟩ <;> rw [h1] <;> simp only <;> omega
/-- What a tick comes to. -/
theorem tick_cases (i N : Nat) (L : GL) (V : List Ent) (d u : Int) :
    (∃ L', tickR (i : Int) K1 L (knownL K1 V N) N d u = ((0, 0, 0, false), L') ∧ ((d = 0 ∧ u = 0 ∧ L' = Gm.rmK K1 L) ∨ (¬ (d = 0 ∧ u = 0) ∧ whomI (i : Int) (knownL K1 V N) N d u = -1 ∧ L' = L))) ∨
    ∃ k : Nat, k < N ∧ k ≠ i ∧ ¬ (d = 0 ∧ u = 0) ∧ whomI (i : Int) (knownL K1 V N) N d u = (k : Int) ∧ tickR (i : Int) K1 L (knownL K1 V N) N d u = (((k : Int), d, u, true), Gm.rmK K1 L) := by
  unfold tickR
  by_cases h0 : d = 0 ∧ u = 0
  · rw [if_pos h0]
    exact .inl ⟨_, rfl, .inl ⟨h0.1, h0.2, rfl⟩⟩
  · rw [if_neg h0]
    by_cases h1 : whomI (i : Int) (knownL K1 V N) N d u = -1
    · rw [if_pos h1]
      exact .inl ⟨_, rfl, .inr ⟨h0, h1, rfl⟩⟩
    · rw [if_neg h1]
      have hlen : (knownL K1 V N).length = N := by simp [knownL]
      have key : ∀ zs : List Int, zs.length = N → (askTo (i : Int) zs N).1 ≠ -1 → ∃ k : Nat, k < N ∧ k ≠ i ∧ (askTo (i : Int) zs N).1 = (k : Int) := fun zs hz hne => by
        rcases ask_is (i : Int) zs N (by omega) with ⟨e, _⟩ | ⟨p, hp, e, hpm, _⟩
        · rw [e] at hne; exact absurd rfl hne
        · exact ⟨p, by omega, by omega, by rw [e]⟩
      have : ∃ k : Nat, k < N ∧ k ≠ i ∧ whomI (i : Int) (knownL K1 V N) N d u = (k : Int) := by
        unfold whomI at h1 ⊢
        by_cases hc : (if 0 < d then askD (i : Int) (knownL K1 V N) N else -1) = -1 ∧ 0 < u
        · rw [if_pos hc] at h1 ⊢
          exact key _ (by simp [hlen]) h1
        · rw [if_neg hc] at h1 ⊢
          by_cases hd : 0 < d
          · rw [if_pos hd] at h1 ⊢
            exact key _ (by simp [hlen]) h1
          · rw [if_neg hd] at h1
            exact absurd rfl h1
      obtain ⟨k, a, b, c⟩ := this
      exact .inr ⟨k, a, b, h0, c, by rw [c]⟩
end Go.Proofs.YtnphkmdanicemaaGreatDoor
namespace Go.Proofs.YtnphkmdanicemaaGreatDoor
open Go.RowKit Go.PlainAid
set_option linter.unusedVariables false
set_option linter.unusedSimpArgs false
theorem LOk.out {s : Led.LS} (h : LOk s) (a b : Int) : LOk (s.onext a b) := by
  refine ⟨s.onext_ok h.ok a b, ?_, ?_⟩ <;> unfold Led.LS.onext <;> split
  · exact h.c
  · exact h.c
  · exact h.h
  · exact h.h
theorem LOk.in_ {s : Led.LS} (h : LOk s) (a b : Int) : LOk (s.inext a b) := by
  refine ⟨s.inext_ok h.ok a b, ?_, ?_⟩ <;> unfold Led.LS.inext <;> split
  · exact h.c
  · exact h.c
  · exact h.h
  · exact h.h
/-- What holds of all places together. -/
structure Good (N : Nat) (dn up : Int) (t : Nat) (ps : List Pl) : Prop where
  len : ps.length = N
  lk : ∀ (i : Nat) (p : Pl), ps[i]? = some p → lkOk p.L
  ld : ∀ (i : Nat) (p : Pl), ps[i]? = some p → LOk p.s
  vw : ∀ (i : Nat) (p : Pl), ps[i]? = some p → VOk (i : Int) t p.V
  sd : (ps.map fun p => p.s.d).sum = dn
  su : (ps.map fun p => p.s.u).sum = up
section
variable {N t : Nat} {dn up : Int} {ps : List Pl}
theorem Good.mono {t' : Nat} (h : Good N dn up t ps) (ht : t ≤ t') : Good N dn up t' ps := ⟨h.len, h.lk, h.ld, fun i p hp => (h.vw i p hp).mono ht, h.sd, h.su⟩
theorem Good.nd (h : Good N dn up t ps) : (∀ a ∈ ps, 0 ≤ a.s.d) ∧ ∀ a ∈ ps, 0 ≤ a.s.u := by
  refine ⟨fun a ha => ?_, fun a ha => ?_⟩
  · obtain ⟨j, hj⟩ := List.getElem?_of_mem ha
    exact (h.ld j a hj).le.1
  · obtain ⟨j, hj⟩ := List.getElem?_of_mem ha
    exact (h.ld j a hj).le.2.1
theorem Good.two (h : Good N dn up t ps) {i j : Nat} {p q : Pl} (hij : i ≠ j) (hp : ps[i]? = some p) (hq : ps[j]? = some q) : p.s.d + p.s.u + q.s.d + q.s.u ≤ dn + up := by
  have h1 := sum_two (fun p : Pl => p.s.d) ps i j p q h.nd.1 hij hp hq
  have h2 := sum_two (fun p : Pl => p.s.u) ps i j p q h.nd.2 hij hp hq
  rw [h.sd] at h1
  rw [h.su] at h2
  omega
/-- One place, of which the ledger has not changed. -/
theorem Good.set (h : Good N dn up t ps) {i : Nat} {p p' : Pl} (hp : ps[i]? = some p) (hl : lkOk p'.L) (hs : p'.s = p.s) (hv : VOk (i : Int) t p'.V) : Good N dn up t (ps.set i p') := by
  refine ⟨by rw [List.length_set]; exact h.len, fun j q hq => ?_, fun j q hq => ?_, fun j q hq => ?_, ?_, ?_⟩
  · rcases set_some hq with ⟨rfl, rfl⟩ | ⟨_, hq⟩
    · exact hl
    · exact h.lk j q hq
  · rcases set_some hq with ⟨rfl, rfl⟩ | ⟨_, hq⟩
    · rw [hs]; exact h.ld _ p hp
    · exact h.ld j q hq
  · rcases set_some hq with ⟨rfl, rfl⟩ | ⟨_, hq⟩
    · exact hv
    · exact h.vw j q hq
  · rw [sum_set (fun p : Pl => p.s.d) ps i p p' hp, hs, h.sd]; omega
  · rw [sum_set (fun p : Pl => p.s.u) ps i p p' hp, hs, h.su]; omega
theorem Good.spread (h : Good N dn up t ps) {w0 : Nat} {p : Pl} {x : Ent} (hp : ps[w0]? = some p) (hd : dn + up ≤ 1000) (hx : look (w0 : Int) K1 (tellNext (w0 : Int) p.V (E0 w0 p.s.d p.s.u)) = some x) : Good N dn up (t + 1) (tookL (N : Int) w0 x N (ps.set w0 { p with V := tellNext (w0 : Int) p.V (E0 w0 p.s.d p.s.u) })) := by
  have hl := (h.ld w0 p hp).le
  obtain ⟨q1, q2, q3, x', q4, q5, q6, q7⟩ := (h.vw w0 p hp).tell hl.1 hl.2.1 hl.2.2
  have hk := look_key hx
  have hw0 : w0 < N := by rw [← h.len]; exact (List.getElem?_eq_some_iff.1 hp).1
  have hg : ∀ (j : Nat) (q : Pl), (tookL (N : Int) w0 x N (ps.set w0 { p with V := tellNext (w0 : Int) p.V (E0 w0 p.s.d p.s.u) }))[j]? = some q → ∃ q0, ps[j]? = some q0 ∧ q.L = q0.L ∧ q.s = q0.s ∧ VOk (j : Int) (t + 1) q.V := fun j q hq => by
    rw [tookL_at] at hq
    cases hs : (ps.set w0 { p with V := tellNext (w0 : Int) p.V (E0 w0 p.s.d p.s.u) })[j]? with
    | none => rw [hs] at hq; cases hq
    | some q0 =>
      rw [hs] at hq
      simp only [Option.map_some, Option.some.injEq] at hq
      subst hq
      rcases set_some hs with ⟨rfl, rfl⟩ | ⟨hne, hs2⟩
      · rw [if_neg (by simp)]
        exact ⟨p, hp, rfl, rfl, q2⟩
      · split
        · exact ⟨q0, hs2, rfl, rfl, ((h.vw j q0 hs2).take (N := (N : Int)) (r := (w0 : Int)) hk.2.2 (q2.nm x hk.1).2 (by omega) (by omega) (by omega)).2.1⟩
        · exact ⟨q0, hs2, rfl, rfl, (h.vw j q0 hs2).mono (Nat.le_succ _)⟩
  refine ⟨by unfold tookL; rw [List.length_mapIdx, List.length_set]; exact h.len, fun j q hq => ?_, fun j q hq => ?_, fun j q hq => ?_, ?_, ?_⟩
  · obtain ⟨q0, a, b, c, d⟩ := hg j q hq
    rw [b]; exact h.lk j q0 a
  · obtain ⟨q0, a, b, c, d⟩ := hg j q hq
    rw [c]; exact h.ld j q0 a
  · obtain ⟨q0, a, b, c, d⟩ := hg j q hq
    exact d
  · rw [sum_took (fun p : Pl => p.s.d) (fun _ _ => rfl), sum_set (fun p : Pl => p.s.d) ps w0 p _ hp, h.sd]; simp only; omega
  · rw [sum_took (fun p : Pl => p.s.u) (fun _ _ => rfl), sum_set (fun p : Pl => p.s.u) ps w0 p _ hp, h.su]; simp only; omega
end
/-- What a tick and what it asks for come to. -/
def AskP (N i : Nat) (ps : List Pl) (p : Pl) (d u : Int) (asked : Bool) (ps' : List Pl) : Prop :=
  (asked = false ∧ ∃ L', ps' = ps.set i { p with L := L' } ∧ ((d = 0 ∧ u = 0 ∧ L' = Gm.rmK K1 p.L) ∨ (¬ (d = 0 ∧ u = 0) ∧ whomI (i : Int) (knownL K1 p.V N) N d u = -1 ∧ L' = p.L))) ∨
  (asked = true ∧ ∃ (k : Nat) (q : Pl), k ≠ i ∧ ps[k]? = some q ∧ ¬ (d = 0 ∧ u = 0) ∧ whomI (i : Int) (knownL K1 p.V N) N d u = (k : Int) ∧
    ps' = ((ps.set i { p with L := Gm.rmK K1 p.L }).set k { q with s := q.s.onext (giveI q.s.d d) (giveI q.s.u u) }).set i { p with L := Gm.rmK K1 p.L, s := p.s.inext (giveI q.s.d d) (giveI q.s.u u) })
theorem asks_any {S : Led.Sens} {Ls L0 N ab cap i t : Nat} {dn up : Int} {ps : List Pl} {p : Pl} (w : World) (h : All L0 N ab cap ps w) (hg : Good N dn up t ps) (hp : ps[i]? = some p) (hsum : dn + up ≤ 1000) (hN2 : 2 ≤ N) (hN8 : N ≤ 8) (hS : Led.Sen S Ls w) (hLs : Ls ≤ L0) (hLw : L0 ≤ w.heap.size) :
    Calls Tryz.prog 9 #[.slice (some ⟨ab, 0, none⟩) N cap, .int .i64 (i : Int)] w fun e w' => ∃ asked ps', e = .returned (.tuple #[.bool true, .bool asked]) ∧ All L0 N ab cap ps' w' ∧ Chg (ownL ps) w w' ∧ AskP N i ps p (byd (lk K1 p.L).1 p.s.d) (byd (lk K1 p.L).2 p.s.u) asked ps' := by
  have hl := hg.lk i p hp
  rcases tick_cases i N p.L p.V (byd (lk K1 p.L).1 p.s.d) (byd (lk K1 p.L).2 p.s.u) with ⟨L', hT, hc⟩ | ⟨k, hk, hki, hdu, hw, hT⟩
  · refine (asks_no w h hp (hg.ld i p hp) hl.2.1 hl.2.2 rfl rfl hT hN2 hN8).mono ?_
    rintro e w' ⟨rfl, ha, hc2⟩
    exact ⟨false, _, rfl, ha, hc2, .inl ⟨rfl, L', rfl, hc⟩⟩
  · obtain ⟨q, hq⟩ : ∃ q, ps[k]? = some q := ⟨_, List.getElem?_eq_getElem (by rw [hg.len]; exact hk)⟩
    have h2 := hg.two (fun e => hki e.symm) hp hq
    refine (asks_yes w h hp hq hki (hg.ld i p hp) (hg.ld k q hq) (by omega) hl.2.1 hl.2.2 rfl rfl hdu hT (lkOk_rm hl).2 hN2 hN8 hS hLs hLw).mono ?_
    rintro e w' ⟨rfl, ha, hc2⟩
    exact ⟨true, _, rfl, ha, hc2, .inr ⟨rfl, k, q, hki, hq, hdu, hw, rfl⟩⟩
theorem onext_is {s : Led.LS} {d u : Int} (h : LOk s) (hd : 0 ≤ d) (hu : 0 ≤ u) : (s.onext (giveI s.d d) (giveI s.u u)).d = s.d - giveI s.d d ∧ (s.onext (giveI s.d d) (giveI s.u u)).u = s.u - giveI s.u u := by
  have a := give_facts h.le.1 hd
  have b := give_facts h.le.2.1 hu
  have hoc : s.ocode (giveI s.d d) (giveI s.u u) = 0 := by
    unfold Led.LS.ocode
    rw [if_neg (by have := a.z; have := b.z; omega), if_neg (by have := a.h; have := b.h; omega)]
  unfold Led.LS.onext
  rw [if_pos hoc]
  exact ⟨rfl, rfl⟩
theorem inext_is {s q : Led.LS} {d u : Int} (h : LOk s) (hq : LOk q) (hd : 0 ≤ d) (hu : 0 ≤ u) (hs : s.d + s.u + q.d + q.u ≤ 1000) : (s.inext (giveI q.d d) (giveI q.u u)).d = s.d + giveI q.d d ∧ (s.inext (giveI q.d d) (giveI q.u u)).u = s.u + giveI q.u u := by
  have a := give_facts hq.le.1 hd
  have b := give_facts hq.le.2.1 hu
  have hic : s.icode (giveI q.d d) (giveI q.u u) = 0 := by
    unfold Led.LS.icode Led.LS.all
    rw [h.c, h.h]
    rw [if_neg (by have := a.z; have := b.z; omega), if_neg (by have := a.h; have := b.h; omega)]
  unfold Led.LS.inext
  rw [if_pos hic]
  exact ⟨rfl, rfl⟩
theorem byd_nn (a b : Int) : 0 ≤ byd a b := by unfold byd; omega
theorem Good.ask {N i t : Nat} {dn up : Int} {ps ps' : List Pl} {p : Pl} {asked : Bool} (h : Good N dn up t ps) (hp : ps[i]? = some p) (hsum : dn + up ≤ 1000) {d u : Int} (hd : 0 ≤ d) (hu : 0 ≤ u) (ha : AskP N i ps p d u asked ps') : Good N dn up t ps' := by
  have hl := h.lk i p hp
  rcases ha with ⟨rfl, L', rfl, hc⟩ | ⟨rfl, k, q, hki, hq, hdu, hw, rfl⟩
  · refine h.set hp ?_ rfl (h.vw i p hp)
    rcases hc with ⟨_, _, rfl⟩ | ⟨_, _, rfl⟩
    · exact (lkOk_rm hl).1
    · exact hl
  · have h2 := h.two (fun e => hki e.symm) hp hq
    have ho := onext_is (h.ld k q hq) hd hu
    have hi := inext_is (h.ld i p hp) (h.ld k q hq) hd hu (by omega)
    have e1 : (ps.set i { p with L := Gm.rmK K1 p.L })[k]? = some q := by rw [List.getElem?_set, if_neg (fun e => hki e.symm)]; exact hq
    have hil : i < ps.length := (List.getElem?_eq_some_iff.1 hp).1
    have e0 : (ps.set i { p with L := Gm.rmK K1 p.L })[i]? = some { p with L := Gm.rmK K1 p.L } := by rw [List.getElem?_set, if_pos rfl, if_pos hil]
    have e2 : ((ps.set i { p with L := Gm.rmK K1 p.L }).set k { q with s := q.s.onext (giveI q.s.d d) (giveI q.s.u u) })[i]? = some { p with L := Gm.rmK K1 p.L } := by rw [List.getElem?_set, if_neg hki]; exact e0
    refine ⟨by simp only [List.length_set]; exact h.len, fun j r hr => ?_, fun j r hr => ?_, fun j r hr => ?_, ?_, ?_⟩
    · rcases set_some hr with ⟨rfl, rfl⟩ | ⟨_, hr⟩
      · exact (lkOk_rm hl).1
      · rcases set_some hr with ⟨rfl, rfl⟩ | ⟨_, hr⟩
        · exact h.lk _ q hq
        · rcases set_some hr with ⟨rfl, rfl⟩ | ⟨_, hr⟩
          · exact (lkOk_rm hl).1
          · exact h.lk _ r hr
    · rcases set_some hr with ⟨rfl, rfl⟩ | ⟨_, hr⟩
      · exact (h.ld _ p hp).in_ _ _
      · rcases set_some hr with ⟨rfl, rfl⟩ | ⟨_, hr⟩
        · exact (h.ld _ q hq).out _ _
        · rcases set_some hr with ⟨rfl, rfl⟩ | ⟨_, hr⟩
          · exact h.ld _ p hp
          · exact h.ld _ r hr
    · rcases set_some hr with ⟨rfl, rfl⟩ | ⟨_, hr⟩
      · exact h.vw _ p hp
      · rcases set_some hr with ⟨rfl, rfl⟩ | ⟨_, hr⟩
        · exact h.vw _ q hq
        · rcases set_some hr with ⟨rfl, rfl⟩ | ⟨_, hr⟩
          · exact h.vw _ p hp
          · exact h.vw _ r hr
    · rw [sum_set (fun p : Pl => p.s.d) _ i _ _ e2, sum_set (fun p : Pl => p.s.d) _ k _ _ e1, sum_set (fun p : Pl => p.s.d) _ i _ _ hp, h.sd]
      simp only
      omega
    · rw [sum_set (fun p : Pl => p.s.u) _ i _ _ e2, sum_set (fun p : Pl => p.s.u) _ k _ _ e1, sum_set (fun p : Pl => p.s.u) _ i _ _ hp, h.su]
      simp only
      omega
/-- How often each has been told of a need, less how often it has asked. -/
structure Nds (t : Nat) (ps : List Pl) (ns : List Int) : Prop where
  nl : ns.length = 8
  nn : ∀ (i : Nat) (p : Pl) (z : Int), ps[i]? = some p → ns[i]? = some z → 0 ≤ z ∧ z ≤ (t : Int) ∧ (lk K1 p.L ≠ (0, 0) → 1 ≤ z)
theorem Nds.mono {t t' : Nat} {ps : List Pl} {ns : List Int} (h : Nds t ps ns) (ht : t ≤ t') : Nds t' ps ns := ⟨h.nl, fun i p z a b => by have := h.nn i p z a b; exact ⟨this.1, by omega, this.2.2⟩⟩
/-- Where what is lacking stays as it was, or is taken away. -/
theorem Nds.same {t : Nat} {ps ps' : List Pl} {ns : List Int} (h : Nds t ps ns) (hs : ∀ (i : Nat) (q : Pl), ps'[i]? = some q → ∃ p, ps[i]? = some p ∧ (lk K1 q.L = lk K1 p.L ∨ lk K1 q.L = (0, 0))) : Nds t ps' ns :=
  ⟨h.nl, fun i q z a b => by
    obtain ⟨p, hp, he⟩ := hs i q a
    have := h.nn i p z hp b
    refine ⟨this.1, this.2.1, fun hne => ?_⟩
    rcases he with e | e
    · exact this.2.2 (by rw [← e]; exact hne)
    · exact absurd e hne⟩
theorem Nds.need {t : Nat} {ps : List Pl} {ns : List Int} (h : Nds t ps ns) {i : Nat} {p : Pl} {z : Int} {L' : GL} (hp : ps[i]? = some p) (hz : ns[i]? = some z) : Nds (t + 1) (ps.set i { p with L := L' }) (ns.set i (z + 1)) := by
  have hh := h.nn i p z hp hz
  refine ⟨by rw [List.length_set]; exact h.nl, fun j q y a b => ?_⟩
  rcases set_some b with ⟨rfl, rfl⟩ | ⟨hne, hb⟩
  · exact ⟨by omega, by omega, fun _ => by omega⟩
  · rcases set_some a with ⟨rfl, rfl⟩ | ⟨_, ha⟩
    · exact absurd rfl hne
    · have := h.nn j q y ha hb
      exact ⟨this.1, by omega, this.2.2⟩
theorem Nds.ask {N t i : Nat} {ps ps' : List Pl} {p : Pl} {ns : List Int} {d u z : Int} {asked : Bool} (h : Nds t ps ns) (hp : ps[i]? = some p) (hz : ns[i]? = some z) (hl : lkOk p.L) (hd : d = byd (lk K1 p.L).1 p.s.d) (hu : u = byd (lk K1 p.L).2 p.s.u) (hs : LOk p.s) (ha : AskP N i ps p d u asked ps') :
    Nds t ps' (if asked = true then ns.set i (z - 1) else ns) ∧ (asked = true → 1 ≤ z) := by
  have hr := (lkOk_rm hl).2
  rcases ha with ⟨rfl, L', rfl, hc⟩ | ⟨rfl, k, q, hki, hq, hdu, hw, rfl⟩
  · rw [if_neg (by decide)]
    refine ⟨h.same fun j r hrr => ?_, fun e => by cases e⟩
    rcases set_some hrr with ⟨rfl, rfl⟩ | ⟨_, hrr⟩
    · refine ⟨p, hp, ?_⟩
      rcases hc with ⟨_, _, rfl⟩ | ⟨_, _, rfl⟩
      · exact .inr hr
      · exact .inl rfl
    · exact ⟨r, hrr, .inl rfl⟩
  · rw [if_pos rfl]
    have hne : lk K1 p.L ≠ (0, 0) := fun e => by
      apply hdu
      rw [hd, hu, e]
      have := hs.le
      unfold byd
      simp only
      omega
    have hz1 := (h.nn i p z hp hz).2.2 hne
    have hzt := (h.nn i p z hp hz).2.1
    refine ⟨⟨by rw [List.length_set]; exact h.nl, fun j r y a b => ?_⟩, fun _ => hz1⟩
    rcases set_some b with ⟨rfl, rfl⟩ | ⟨hne2, hb⟩
    · refine ⟨by omega, by omega, fun hh => ?_⟩
      rcases set_some a with ⟨_, rfl⟩ | ⟨hn, _⟩
      · exact absurd hr hh
      · exact absurd rfl hn
    · rcases set_some a with ⟨e, _⟩ | ⟨_, ha⟩
      · exact absurd e hne2
      · rcases set_some ha with ⟨rfl, rfl⟩ | ⟨_, ha⟩
        · exact h.nn _ q y hq hb
        · rcases set_some ha with ⟨e, _⟩ | ⟨_, ha⟩
          · exact absurd e hne2
          · exact h.nn _ r y ha hb
theorem ask_own {N i : Nat} {ps ps' : List Pl} {p : Pl} {d u : Int} {asked : Bool} (hp : ps[i]? = some p) (ha : AskP N i ps p d u asked ps') {k : Nat} (hk : ownL ps' k) : ownL ps k := by
  rcases ha with ⟨rfl, L', rfl, hc⟩ | ⟨rfl, j, q, hki, hq, hdu, hw, rfl⟩
  · exact ownL_set (p' := { p with L := L' }) hp (fun _ e => e) hk
  · have hil : i < ps.length := (List.getElem?_eq_some_iff.1 hp).1
    have e1 : (ps.set i { p with L := Gm.rmK K1 p.L })[j]? = some q := by rw [List.getElem?_set, if_neg (fun e => hki e.symm)]; exact hq
    have e0 : (ps.set i { p with L := Gm.rmK K1 p.L })[i]? = some { p with L := Gm.rmK K1 p.L } := by rw [List.getElem?_set, if_pos rfl, if_pos hil]
    have e2 : ((ps.set i { p with L := Gm.rmK K1 p.L }).set j { q with s := q.s.onext (giveI q.s.d d) (giveI q.s.u u) })[i]? = some { p with L := Gm.rmK K1 p.L } := by rw [List.getElem?_set, if_neg hki]; exact e0
    have k1 := ownL_set (p' := { p with L := Gm.rmK K1 p.L, s := p.s.inext (giveI q.s.d d) (giveI q.s.u u) }) e2 (fun _ e => e) hk
    have k2 := ownL_set (p' := { q with s := q.s.onext (giveI q.s.d d) (giveI q.s.u u) }) e1 (fun _ e => e) k1
    exact ownL_set (p' := { p with L := Gm.rmK K1 p.L }) hp (fun _ e => e) k2
end Go.Proofs.YtnphkmdanicemaaGreatDoor
