import Derived.Test.YtdblbjcdnkiepaaAp0
import Derived.Deep.Cut
namespace Go.Proofs.Ytdblbjcdnkiepaa
open Go.RowKit Go.PlainAid Go.MapKept
set_option linter.unusedVariables false
set_option linter.unusedSimpArgs false
def mV (m : Int) (n : Nat) : List Value := flatV (vmk m n)
def mR (m : Int) (n : Nat) : List Value := flatR (rmk m n)
theorem vmk_succ (m : Int) (q : Nat) : vmk m (q + 1) = vmk m q ++ [⟨0, [], q, 0, m, 0, 0, 0⟩] := by simp [vmk, List.range_succ]
theorem rmk_succ (m : Int) (q : Nat) : rmk m (q + 1) = rmk m q ++ [(m, (q : Int))] := by simp [rmk, List.range_succ]
theorem vmk_set {m : Int} {q : Nat} {D : List Ent} (h : q < D.length) : (vmk m q ++ D.drop q).set q ⟨0, [], q, 0, m, 0, 0, 0⟩ = vmk m (q + 1) ++ D.drop (q + 1) := by
  rw [List.set_append_right _ _ (by rw [vmk_len]; exact Nat.le_refl _), vmk_len, Nat.sub_self, List.drop_eq_getElem_cons h, List.set_cons_zero, vmk_succ, List.append_assoc]
  rfl
theorem rmk_set {m : Int} {q : Nat} {D : List (Int × Int)} (h : q < D.length) : (rmk m q ++ D.drop q).set q (m, (q : Int)) = rmk m (q + 1) ++ D.drop (q + 1) := by
  rw [List.set_append_right _ _ (by rw [rmk_len]; exact Nat.le_refl _), rmk_len, Nat.sub_self, List.drop_eq_getElem_cons h, List.set_cons_zero, rmk_succ, List.append_assoc]
  rfl
section
variable {L T sz RT a b : Nat} {mkf : Int → Nat → List Value} {sv : Value} {us : List UU} {Y : List (Pt L)} {own0 : Nat → Prop} {w0 w w' : World} {e : Pt L} {i : Nat}
theorem kR_row (h : AS own0 w0 (e :: kRest L T sz RT mkf sv a b i us Y) w) : w.ownsRow L RT 3 sv us.length (flatU us) := h.get (e := rowP L RT 3 sv us.length (flatU us)) (List.mem_cons_of_mem _ (List.mem_append.2 (Or.inr (List.mem_append.2 (Or.inr (List.mem_cons_self ..))))))
theorem kR_y {e' : Pt L} (h : AS own0 w0 (e :: kRest L T sz RT mkf sv a b i us Y) w) (he : e' ∈ Y) : e'.P w := h.get (List.mem_cons_of_mem _ (List.mem_append.2 (Or.inr (List.mem_append.2 (Or.inr (List.mem_cons_of_mem _ (List.mem_append.2 (Or.inr he))))))))
theorem kRest_grow (hi : i ≤ us.length) : kRest L T sz RT mkf sv a i i us Y = kRest L T sz RT mkf sv a (i + 1) i us Y := by
  unfold kRest
  rw [uPs_congr (a := a) (a' := a) (b := i) (b' := i + 1) (us.take i) 0 (fun j _ h2 => by rw [List.length_take] at h2; exact ⟨rfl, by simp; omega⟩), uPs_congr (a := a) (a' := a) (b := i) (b' := i + 1) (us.drop (i + 1)) (i + 1) (fun j h1 _ => ⟨rfl, by simp; omega⟩)]
theorem kR_setmo {g cap : Nat} {u : UU} (x : Value) (h : AS own0 w0 (e :: kRest L T sz RT mkf (.slice (some ⟨g, 0, none⟩) us.length cap) a b i us Y) w) (hu : us[i]? = some u) : AS own0 w0 (e :: kRest L T sz RT mkf (.slice (some ⟨g, 0, none⟩) us.length cap) a b i (us.set i { u with mo := x }) Y) (w.setCell ⟨g, i * 3 + 2, none⟩ x) := by
  have hl : i < us.length := (List.getElem?_eq_some_iff.1 hu).1
  have hro := kR_row h
  obtain ⟨o1, _⟩ := World.ownsRow.stored hro (i * 3 + 2) x
  rw [flatU_mo us i u x hu] at o1
  have e1 : (us.set i { u with mo := x }).take i = us.take i := List.take_set_of_le (Nat.le_refl _)
  have e2 : (us.set i { u with mo := x }).drop (i + 1) = us.drop (i + 1) := List.drop_set_of_lt (Nat.lt_succ_self _)
  have e3 : (us.set i { u with mo := x }).map (wPt L T sz) = us.map (wPt L T sz) := by
    rw [List.map_set]
    have : wPt L T sz { u with mo := x } = wPt L T sz u := rfl
    rw [this]
    refine List.ext_getElem? fun j => ?_
    rw [List.getElem?_set]
    split
    · rename_i hij
      subst hij
      have h7 := (List.getElem?_eq_some_iff.1 hu).2
      simp only [List.length_map, hl, if_true, List.getElem?_map, List.getElem?_eq_getElem hl, Option.map_some, h7]
    · rfl
  unfold kRest at h ⊢
  rw [e1, e2, e3]
  have key : ∀ (r : Pt L) (A B Z : List (Pt L)), (e :: (A ++ (B ++ (r :: Z)))).Perm (r :: (e :: (A ++ (B ++ Z)))) := fun r A B Z => by
    have h1 : (B ++ (r :: Z)).Perm (r :: (B ++ Z)) := List.perm_middle
    have h2 : (A ++ (B ++ (r :: Z))).Perm (r :: (A ++ (B ++ Z))) := (List.Perm.append_left A h1).trans List.perm_middle
    exact (h2.cons e).trans (List.Perm.swap _ _ _)
  refine AS.perm ((h.perm (key _ _ _ _)).swap (e' := rowP L RT 3 (.slice (some ⟨g, 0, none⟩) us.length cap) (us.set i { u with mo := x }).length (flatU (us.set i { u with mo := x }))) ((setCell_chg w g (i * 3 + 2) x).mono (fun j _ hj => by rw [hj]; rfl)) (by rw [List.length_set]; exact o1) (fun k hk => Or.inl hk)) (key _ _ _ _).symm
theorem unit_app {l x : Value} {n m : Nat} {c ys : List Value} {R : List (Pt L)} (h : AS own0 w0 (unitP L T sz l n c x m ys :: R) w) (hnm : n ≤ m) (t : TypeId) (z : Value) (bytes : Nat) (ht : Try.prog.underlying t = some (.slice T)) (hinfo : (Try.prog.info? T).map (fun i => (i.zero, i.size, i.bytes)) = some (some z, sz, bytes)) (hzz : z.cells.size = sz) (hs0 : 1 ≤ sz) (hb0 : 0 < bytes) (C : Array Value) (hC : C.size = sz) (hone : ∀ u ∈ C.toList, u.oneCell' = true) (hby2 : (m + 1) * bytes ≤ 140737488355328) (hL : L ≤ w.heap.size) :
    ∃ x' w', (∀ ty, (Builtin.append_ #[t, t] ty #[x, .slice (some ⟨w.heap.size, 0, none⟩) 1 1]).run Try.prog (w.alloc (.cells C T)) = .ok x' w') ∧ AS own0 w0 (unitP L T sz l n c x' (m + 1) (ys ++ C.toList) :: R) w' := by
  obtain ⟨r1, r2⟩ := h.head
  obtain ⟨x', w', h1, h2, h3, h4⟩ := app_any t T z sz bytes ht hinfo hzz hs0 hb0 (r2.alloc (.cells C T)) ⟨w.heap.size, 0, none⟩ 1 1 C.toList (by simp [hC]) (fun j u hu => by
    have hB : Blk (w.alloc (.cells C T)) w.heap.size C T := heap_alloc_new w _
    rw [addr_add, Nat.zero_add, hB.cell j]
    simpa using hu) hone hby2 (by rw [World.size_alloc]; omega) t
  have hg := h3.ofAlloc
  refine ⟨x', w', fun ty => h1, h.swap (hg.chg.mono (fun j _ hj => Or.inr hj)) ⟨?_, h2⟩ (fun k hk => ?_)⟩
  · by_cases hsame : l.ownBlock = x.ownBlock
    · exact h4 _ _ _ _ hnm hsame (r1.alloc _)
    · exact ownsRow_same r1 (fun g hg' => hg.chg.block g (ownsRow_lt r1 hg').2 (fun e => hsame (hg'.trans e.symm)))
  · rcases hk with hk | hk
    · exact Or.inl (Or.inl hk)
    · rcases hg.at' k hk with h5 | h5
      · exact Or.inl (Or.inr h5)
      · exact Or.inr h5
end
theorem info106s : (Try.prog.info? 106).map (·.size) = some 3 := by kernel_rfl
theorem info109s : (Try.prog.info? 109).map (·.size) = some 3 := by kernel_rfl
theorem row_three {w : World} {L RT n cap : Nat} {ao : Option Addr} {us : List UU} (h : w.ownsRow L RT 3 (.slice ao n cap) n (flatU us)) {i : Nat} {u : UU} (hu : us[i]? = some u) : ∃ g, ao = some ⟨g, 0, none⟩ ∧ w.cell? ⟨g, i * 3, none⟩ = some u.l ∧ w.cell? ⟨g, i * 3 + 1, none⟩ = some u.w ∧ w.cell? ⟨g, i * 3 + 2, none⟩ = some u.mo := by
  obtain ⟨_, _, e, _, _, hc⟩ := own_read h
  cases e
  have hl := h.1
  rw [flatU_len] at hl
  have hi := (List.getElem?_eq_some_iff.1 hu).1
  obtain ⟨g, e, _, _, h4⟩ := hc (by omega)
  exact ⟨g, e, h4 _ _ (flatU_get us i 0 u hu (by decide)), h4 _ _ (flatU_get us i 1 u hu (by decide)), h4 _ _ (flatU_get us i 2 u hu (by decide))⟩
end Go.Proofs.Ytdblbjcdnkiepaa
