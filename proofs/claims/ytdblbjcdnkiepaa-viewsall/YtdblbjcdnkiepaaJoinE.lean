import Derived.Test.YtdblbjcdnkiepaaBs0
import Derived.Test.YtdblbjcdnkiepaaApa
import Derived.Test.YtdblbjcdnkiepaaPl3
namespace Go.Proofs.Ytdblbjcdnkiepaa
open Go.RowKit Go.PlainAid Go.MapKept
set_option linter.unusedVariables false
theorem BS.apart {L0 N M kb : Nat} {ps : List PX} {ds ks : Value} {us vs : List UU} {w : World} (h : BS L0 N M kb ps ds ks us vs w) (hM : M ≤ 1000) :
    Calls Try.prog 34 #[.pointer (some ⟨kb, 0, none⟩)] w fun e w' => e = .returned (.bool true) ∧ Below L0 w w' := by
  have hm1 : ∀ u ∈ us, u.mo = .slice none 0 0 := fun u hu => by obtain ⟨_, _, _, _, e⟩ := h.hu u hu; exact e
  have hm2 : ∀ u ∈ vs, u.mo = .slice none 0 0 := fun u hu => by obtain ⟨_, _, _, _, e⟩ := h.hv u hu; exact e
  obtain ⟨a1, a2⟩ := held_kPs (mkf := mR) (Y := []) (h.rr.sub (List.sublist_append_right _ _)) hm2 h.ksr (by decide) ⟨fun e he => (by cases he), List.Pairwise.nil⟩ (fun k ⟨e, he, _⟩ => by cases he)
  have a3 : ∀ k, has (kPs L0 44 2 109 mR ks 0 0 vs []) k → (∃ cu, Blk w k cu 44) ∨ (∃ cu, Blk w k cu 109) := fun k hk => by
    rcases a2 k hk with h1 | h1 | ⟨e, he, _⟩
    · exact Or.inl h1
    · exact Or.inr h1
    · cases he
  have b1 : Held (boxP L0 kb #[ds, ks] 90 :: kPs L0 44 2 109 mR ks 0 0 vs []) w := a1.add ⟨h.kbx, h.kbl⟩ (fun k hk hh => by
    have hk : k = kb := hk
    subst hk
    rcases a3 _ hh with ⟨cu, hcu⟩ | ⟨cu, hcu⟩
    · exact h.kbx.ne_t hcu (by decide) rfl
    · exact h.kbx.ne_t hcu (by decide) rfl)
  obtain ⟨c1, c2⟩ := held_kPs (mkf := mV) (Y := boxP L0 kb #[ds, ks] 90 :: kPs L0 44 2 109 mR ks 0 0 vs []) (h.rv.sub (List.sublist_append_right _ _)) hm1 h.dsr (by decide) b1 (fun k hk => by
    rcases has_cons.1 hk with hk | hk
    · have hk : k = kb := hk
      subst hk
      exact ⟨_, _, h.kbx, by decide, by decide⟩
    · rcases a3 _ hk with ⟨cu, hcu⟩ | ⟨cu, hcu⟩
      · exact ⟨_, _, hcu, by decide, by decide⟩
      · exact ⟨_, _, hcu, by decide, by decide⟩)
  refine (apart_any w c1 h.hu h.hv (Nat.le_trans h.ul hM) (Nat.le_trans h.vl hM)).mono ?_
  rintro e w' ⟨rfl, hc⟩
  exact ⟨rfl, hc.below h.lo (fun k hk => (c1.typ hk).1)⟩
end Go.Proofs.Ytdblbjcdnkiepaa
namespace Go.Proofs.Ytdblbjcdnkiepaa
open Go.RowKit Go.PlainAid Go.MapKept
set_option linter.unusedVariables false
set_option linter.unusedSimpArgs false
/-- Two pairs and the book within run, which began at w0. -/
def RI (w0 : World) (N kb : Nat) (is : List PI) (k : Nat) (w : World) : Prop := ∃ ps ds ks us vs, ps.map PX.i = is ∧ BS w0.heap.size N k kb ps ds ks us vs w ∧ Below w0.heap.size w0 w
section
variable {w0 w w' : World} {N kb k : Nat} {is : List PI} {i : PI}
theorem RI.more (h : RI w0 N kb is k w) (hb : Below w.heap.size w w') : RI w0 N kb is k w' := by
  obtain ⟨ps, ds, ks, us, vs, h1, h2, h3⟩ := h
  exact ⟨ps, ds, ks, us, vs, h1, h2.more hb, h3.trans (hb.mono h3.size)⟩
theorem RI.mono (h : RI w0 N kb is k w) : RI w0 N kb is (k + 1) w := by
  obtain ⟨ps, ds, ks, us, vs, h1, h2, h3⟩ := h
  exact ⟨ps, ds, ks, us, vs, h1, h2.mono, h3⟩
theorem RI.bel (h : RI w0 N kb is k w) : Below w0.heap.size w0 w := by
  obtain ⟨ps, ds, ks, us, vs, h1, h2, h3⟩ := h
  exact h3
theorem RI.apart (h : RI w0 N kb is k w) (hk : k ≤ 1000) : Calls Try.prog 34 #[.pointer (some ⟨kb, 0, none⟩)] w fun e w' => e = .returned (.bool true) ∧ Below w0.heap.size w0 w' := by
  obtain ⟨ps, ds, ks, us, vs, h1, h2, h3⟩ := h
  refine (h2.apart hk).mono ?_
  rintro e w' ⟨rfl, hb⟩
  exact ⟨rfl, h3.trans hb⟩
theorem RI.play {ov : Value} (o : OpA) (h : RI w0 N kb is k w) (hi : i ∈ is) (hk : k ≤ 300) (hN : N ≤ 16) (ho : o.ok) (hf : FromV w0 o.la o.es) (hov : ov = .pointer none ∨ ∃ q ∈ is, ov = .pointer (some ⟨q.pb, 0, none⟩)) :
    Calls Try.prog 33 #[.pointer (some ⟨i.pb, 0, none⟩), .agg #[.int .i64 o.k, .int .i64 o.who, .int .i64 o.a, .int .i64 o.b, .int .i64 o.h, .string ⟨o.n.toArray⟩, .int .i64 o.d, .int .i64 o.u, .slice o.la o.K o.cap], ov] w fun e w' => e = .returned (.bool true) ∧ RI w0 N kb is (k + 1) w' := by
  obtain ⟨ps, ds, ks, us, vs, h1, h2, h3⟩ := h
  subst h1
  obtain ⟨x, hx, rfl⟩ := List.mem_map.1 hi
  obtain ⟨P, Q, rfl⟩ := List.append_of_mem hx
  have hB := h2.perm List.perm_middle
  have hO : Oth ov w := by
    rcases hov with hov | ⟨q, hq, hov⟩
    · exact Or.inl hov
    · obtain ⟨y, hy, rfl⟩ := List.mem_map.1 hq
      have hp := (h2.all y hy).pp
      exact Or.inr ⟨y.i.pb, _, y.i.rb, k, y.i.me, N, y.v, y.L, y.A, hov, ⟨_, _, _, _, hp.box⟩, hp.rv, hp.ag, by have := hp.al; omega⟩
  refine (played_bs o w hB hk hN ho (hf.all h3) (fun h0 b off e => ?_) hO).mono ?_
  · have h5 : FromV w0 (some ⟨b, off, none⟩) o.es := e ▸ hf
    exact h5.lt (by rw [ho.len]; exact h0)
  · rintro e w' ⟨rfl, x', ds', ks', us', vs', a1, a2, a3⟩
    refine ⟨rfl, P ++ x' :: Q, ds', ks', us', vs', ?_, a2.perm List.perm_middle.symm, h3.trans (a3.below h3.size (fun _ h => h))⟩
    rw [List.map_append, List.map_append, List.map_cons, List.map_cons, a1]
def j0 : PJ := ⟨.slice none 0 0, [], []⟩
def px0 (i : PI) : PX := ⟨i, .slice none 0 0, 0, .slice none 0 0, 0, .slice none 0 0, [], []⟩
theorem rg_nil {L0 T sz : Nat} : ∀ rs : List RW, (∀ r ∈ rs, r = (.slice none 0 0, 0, [])) → RG L0 T sz rs w
  | [], _ => RG.nil _ _ _ _
  | r :: t, h => by
    have h1 := h r (List.mem_cons_self ..)
    subst h1
    have ih := rg_nil (L0 := L0) (T := T) (sz := sz) t (fun y hy => h y (List.mem_cons_of_mem _ hy))
    refine ⟨fun y hy => ?_, List.pairwise_cons.2 ⟨fun y hy g hg => (by cases hg), ih.dj⟩⟩
    rcases List.mem_cons.1 hy with rfl | hy
    · exact World.ownsRow_nil _ _ _ _
    · exact ih.all y hy
theorem RI.start (ha : ∀ i ∈ is, In2 w0.heap.size N 0 (.pointer (some ⟨kb, 0, none⟩)) i ⟨.slice none 0 0, [], []⟩ w) (hd : is.Pairwise (fun a b => ∀ k, own2 a ⟨.slice none 0 0, [], []⟩ k → ¬ own2 b ⟨.slice none 0 0, [], []⟩ k)) (hK : Blk w kb #[.slice none 0 0, .slice none 0 0] 90) (hkl : w0.heap.size ≤ kb) (hb : Below w0.heap.size w0 w) : RI w0 N kb is 0 w := by
  refine ⟨is.map px0, .slice none 0 0, .slice none 0 0, [], [], ?_, ⟨fun x hx => ?_, ?_, hK, hkl, World.ownsRow_nil _ _ _ _, World.ownsRow_nil _ _ _ _, rg_nil _ (fun r hr => ?_), rg_nil _ (fun r hr => ?_), (fun u hu => by cases hu), (fun u hu => by cases hu), Nat.le_refl _, Nat.le_refl _⟩, hb⟩
  · rw [List.map_map]; exact List.map_id _
  · obtain ⟨i, hi, rfl⟩ := List.mem_map.1 hx
    exact ⟨(ha i hi).pp, (ha i hi).lo, Nat.zero_le _, Nat.zero_le _⟩
  · rw [List.pairwise_map]
    exact hd
  · simp only [List.map_nil, List.append_nil] at hr
    obtain ⟨x, hx, rfl⟩ := List.mem_map.1 hr
    obtain ⟨i, hi, rfl⟩ := List.mem_map.1 hx
    rfl
  · simp only [List.map_nil, List.append_nil] at hr
    obtain ⟨x, hx, rfl⟩ := List.mem_map.1 hr
    obtain ⟨i, hi, rfl⟩ := List.mem_map.1 hx
    rfl
end
end Go.Proofs.Ytdblbjcdnkiepaa
