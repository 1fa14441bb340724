import Derived.Test.YtmnihombiabkgaaWt
namespace Go.Proofs.Ytmnihombiabkgaa
open Go.RowKit Go.PlainAid Go.MapKept
set_option linter.unusedVariables false
set_option linter.unusedSimpArgs false
def nil64 : List Value := List.replicate 64 (.slice none 0 0)
theorem nil64_own {whb mp k : Nat} (h : wown whb mp nil64 k) : k = whb ∨ k = mp := by
  rcases h with e | e | ⟨v, hv, e⟩
  · exact Or.inl e
  · exact Or.inr e
  · rw [List.eq_of_mem_replicate hv] at e
    cases e
set_option maxRecDepth 100000 in
theorem box0 (u : Int) (m : Nat) : (Try.zeroCells48.setIfInBounds 64 (Value.int IntKind.i64 u)).setIfInBounds 65 (Value.map (some m)) = wbox nil64 u m 0 0 := rfl
set_option maxRecDepth 100000 in
set_option maxHeartbeats 1600000 in
theorem new_any (u : Int) (w : World) (h : 1 ≤ u ∧ u ≤ 64) :
    Calls Try.prog 9 #[.int .i64 u] w fun e w' => e = .returned (.tuple #[.pointer (some ⟨w.heap.size + 1, 0, none⟩), .int .i64 0]) ∧ WL w.heap.size (w.heap.size + 1) w.heap.size u nil64 0 0 [] [] w' ∧ Below w.heap.size w w' := by
  obtain ⟨h1, h2⟩ := h
  have hmm := @run_makeMap Try.prog
  go_enter Try.func9, Try.ntmps9
  go_wp2_with fail
  go_ret2
  have hb1 : Below w.heap.size w (w.alloc (.map #[] 0)) := (Below.refl _ _).alloc (Nat.le_refl _) _
  have hb2 : Below (w.alloc (.map #[] 0)).heap.size (w.alloc (.map #[] 0)) ((w.alloc (.map #[] 0)).alloc (.cells ((Try.zeroCells48.setIfInBounds 64 (Value.int IntKind.i64 u)).setIfInBounds 65 (Value.map (some w.heap.size))) 48)) := (Below.refl _ _).alloc (Nat.le_refl _) _
  have hm : HMap MI (w.alloc (.map #[] 0)) w.heap.size [] := HMap.made w
  refine ⟨rfl, ⟨?_, ?_, rfl, fun p v hv => ?_, fun p q v v' hv hv' hne k hk => ?_, Nat.le_succ _, Nat.le_refl _⟩, ?_⟩
  · rw [← box0]
    have := heap_alloc_new (w.alloc (.map #[] 0)) (.cells ((Try.zeroCells48.setIfInBounds 64 (Value.int IntKind.i64 u)).setIfInBounds 65 (Value.map (some w.heap.size))) 48)
    rw [World.size_alloc] at this
    exact this
  · exact hm.same (hb2.block _ hm.lt)
  · rw [List.eq_of_mem_replicate (List.mem_of_getElem? hv)]
    exact World.ownsRow_nil _ _ _ _
  · rw [List.eq_of_mem_replicate (List.mem_of_getElem? hv)] at hk
    cases hk
  · exact hb1.trans (hb2.mono hb1.size)
theorem new_no (u : Int) (w : World) (h : ¬ (1 ≤ u ∧ u ≤ 64)) :
    Calls Try.prog 9 #[.int .i64 u] w fun e w' => e = .returned (.tuple #[.pointer none, .int .i64 1]) ∧ w' = w := by
  by_cases h1 : u < 1
  · clear h
    go_enter Try.func9, Try.ntmps9
    go_wp2_with fail
    go_ret2
    exact ⟨rfl, rfl⟩
  · have h2 : 64 < u := by omega
    clear h
    go_enter Try.func9, Try.ntmps9
    go_wp2_with fail
    go_ret2
    exact ⟨rfl, rfl⟩
theorem now_any {base whb mp : Nat} {u now last : Int} {vs : List Value} {A : List Tm} {M : List (Int × Int)} (w : World) (h : WL base whb mp u vs now last A M w) :
    Calls Try.prog 13 #[.pointer (some ⟨whb, 0, none⟩)] w fun e w' => e = .returned (.int .i64 now) ∧ w' = w := by
  have c := h.c66
  clear h
  go_enter Try.func13, Try.ntmps13
  go_wp2_with fail
  go_ret
  exact ⟨rfl, rfl⟩
end Go.Proofs.Ytmnihombiabkgaa
