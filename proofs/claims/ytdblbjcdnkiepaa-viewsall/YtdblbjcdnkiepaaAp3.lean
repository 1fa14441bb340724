import Derived.Test.YtdblbjcdnkiepaaAp2
namespace Go.Proofs.Ytdblbjcdnkiepaa
open Go.RowKit Go.PlainAid Go.MapKept
set_option linter.unusedVariables false
set_option linter.unusedSimpArgs false
section
variable {L T sz RT A b k g cap n : Nat} {mkf : Int → Nat → List Value} {us : List UU} {Y : List (Pt L)} {own0 : Nat → Prop} {w0 w : World} {e : Pt L} {u : UU} {x : Value}
theorem kR_setmo2 (z : Value) (h : AS own0 w0 (e :: kRest L T sz RT mkf (.slice (some ⟨g, 0, none⟩) n cap) A b k us Y) w) (hn : us.length = n) (hu : us[k]? = some u) : AS own0 w0 (e :: kRest L T sz RT mkf (.slice (some ⟨g, 0, none⟩) n cap) A b k (us.set k { u with mo := z }) Y) (w.setCell ⟨g, k * 3 + 2, none⟩ z) := by
  subst hn
  exact kR_setmo z h hu
theorem kR_row2 {sv : Value} (h : AS own0 w0 (e :: kRest L T sz RT mkf sv A b k us Y) w) (hn : us.length = n) : w.ownsRow L RT 3 sv n (flatU us) := by
  subst hn
  exact kR_row h
theorem kPs_row2 {sv : Value} (h : AS own0 w0 (kPs L T sz RT mkf sv A b us Y) w) (hn : us.length = n) : w.ownsRow L RT 3 sv n (flatU us) := by
  subst hn
  exact kPs_row h
theorem set_self (hk : us[k]? = some u) : (us.set k { u with mo := x })[k]? = some { u with mo := x } := by
  have := (List.getElem?_eq_some_iff.1 hk).1
  simp [this]
theorem grow_start (h : AS own0 w0 (kPs L T sz RT mkf (.slice (some ⟨g, 0, none⟩) n cap) A k us Y) w) (hn : us.length = n) (hu : us[k]? = some u) (hk : k < A) :
    AS own0 w0 (unitP L T sz u.l u.n (mkf (-1000 - (k : Int)) u.n) u.l u.n (mkf (-1000 - (k : Int)) u.n) :: kRest L T sz RT mkf (.slice (some ⟨g, 0, none⟩) n cap) A k k (us.set k { u with mo := u.l }) Y) (w.setCell ⟨g, k * 3 + 2, none⟩ u.l) := by
  have h0 := h.perm (kPs_focus hu)
  unfold uPt at h0
  rw [if_pos hk] at h0
  refine kR_setmo2 u.l (h0.swap (e' := unitP L T sz u.l u.n (mkf (-1000 - (k : Int)) u.n) u.l u.n (mkf (-1000 - (k : Int)) u.n)) (Chg.refl _ _) ⟨h0.head.1, h0.head.1⟩ (fun j hj => ?_)) hn hu
  rcases hj with hj | hj <;> exact Or.inl (Or.inl hj)
theorem grow_end (h : AS own0 w0 (unitP L T sz u.l u.n (mkf (-1000 - (k : Int)) u.n) x (u.n + 100) (mkf (-1000 - (k : Int)) (u.n + 100)) :: kRest L T sz RT mkf (.slice (some ⟨g, 0, none⟩) n cap) A k k (us.set k { u with mo := x }) Y) w) (hu : us[k]? = some u) (hk : k < A) :
    AS own0 w0 (kPs L T sz RT mkf (.slice (some ⟨g, 0, none⟩) n cap) A (k + 1) (us.set k { u with mo := x }) Y) w := by
  have hl := (List.getElem?_eq_some_iff.1 hu).1
  rw [kRest_grow (by rw [List.length_set]; omega)] at h
  refine AS.perm ?_ (kPs_focus (set_self (x := x) hu)).symm
  unfold uPt
  rw [if_pos hk, if_pos (Nat.lt_succ_self k), if_pos (Nat.lt_succ_self k)]
  exact h
theorem grow_app {l : Value} {n1 m : Nat} {c ys : List Value} (h : AS own0 w0 (unitP L T sz l n1 c x m ys :: kRest L T sz RT mkf (.slice (some ⟨g, 0, none⟩) n cap) A b k (us.set k { u with mo := x }) Y) w) (hn : us.length = n) (hu : us[k]? = some u) (hnm : n1 ≤ m) (t : TypeId) (z : Value) (bytes : Nat) (ht : Try.prog.underlying t = some (.slice T)) (hinfo : (Try.prog.info? T).map (fun i => (i.zero, i.size, i.bytes)) = some (some z, sz, bytes)) (hzz : z.cells.size = sz) (hs0 : 1 ≤ sz) (hb0 : 0 < bytes) (C : Array Value) (hC : C.size = sz) (hone : ∀ u ∈ C.toList, u.oneCell' = true) (hby2 : (m + 1) * bytes ≤ 140737488355328) :
    ∃ x' w', (∀ ty, (Builtin.append_ #[t, t] ty #[x, .slice (some ⟨w.heap.size, 0, none⟩) 1 1]).run Try.prog (w.alloc (.cells C T)) = .ok x' w') ∧ w'.cell? ⟨g, k * 3 + 2, none⟩ = some x ∧ w'.frozen? ⟨g, k * 3 + 2, none⟩ = false ∧ AS own0 w0 (unitP L T sz l n1 c x' (m + 1) (ys ++ C.toList) :: kRest L T sz RT mkf (.slice (some ⟨g, 0, none⟩) n cap) A b k (us.set k { u with mo := x' }) Y) (w'.setCell ⟨g, k * 3 + 2, none⟩ x') := by
  have hl := (List.getElem?_eq_some_iff.1 hu).1
  have hn' : (us.set k { u with mo := x }).length = n := by rw [List.length_set]; exact hn
  have hlt := ownsRow_lt (kR_row2 h hn') (g := g) rfl
  obtain ⟨x', w', h1, h2⟩ := unit_app h hnm t z bytes ht hinfo hzz hs0 hb0 C hC hone hby2 (by omega)
  have hr := kR_row2 h2 hn'
  obtain ⟨g9, e9, _, _, h9⟩ := row_three hr (set_self (x := x) hu)
  cases e9
  have h3 := kR_setmo2 x' h2 hn' (set_self (x := x) hu)
  rw [List.set_set] at h3
  exact ⟨x', w', h1, h9, World.ownsRow.frozenAt hr _, h3⟩
end
theorem mV_succ (m : Int) (q : Nat) : mV m q ++ #[(.string ⟨#[]⟩ : Value), .int .i64 (q : Int), .int .i64 0, .int .i64 m, .int .i64 0, .int .i64 0, .int .i64 0].toList = mV m (q + 1) := by
  unfold mV
  rw [vmk_succ, flatV_append]
  congr 1
theorem mR_succ (m : Int) (q : Nat) : mR m q ++ #[(.int .i64 m : Value), .int .i64 (q : Int)].toList = mR m (q + 1) := by
  unfold mR
  rw [rmk_succ, show ∀ a b, flatR (a ++ [b]) = flatR a ++ flatR [b] from fun a b => by simp [flatR]]
  congr 1
end Go.Proofs.Ytdblbjcdnkiepaa
