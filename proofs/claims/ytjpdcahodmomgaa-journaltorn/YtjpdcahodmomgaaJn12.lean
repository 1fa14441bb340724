import Derived.Test.YtjpdcahodmomgaaJn11
namespace Go.Proofs.Ytjpdcahodmomgaa
open Go.RowKit Go.PlainAid
set_option linter.unusedVariables false
set_option linter.unusedSimpArgs false
theorem tail_at {w : World} {L e n i : Nat} {v u : Value} {xs : List Value} (h : Tail w L e v n xs) (hu : xs[i]? = some u) : ∃ g off cap, v = .slice (some ⟨g, off, none⟩) n cap ∧ w.cell? ⟨g, off + i, none⟩ = some u := by
  rcases h.2 with ⟨e1, e2⟩ | ⟨g, off, cap, e1, _, _, _, h5⟩
  · have := (List.getElem?_eq_some_iff.1 hu).1
    have := h.1
    omega
  · exact ⟨g, off, cap, e1, h5 i u hu⟩
set_option maxRecDepth 100000 in
theorem at_yes {L jb : Nat} {y : JV} {R : List (Ent L)} {i : Nat} {d : Value × List UInt8} (w : World) (h : Held (y.es L jb ++ R) w) (hd : y.recs[i]? = some d) (hl : d.2.length ≤ 8192) (hr : y.recs.length ≤ 100000) :
    Calls Try.prog 32 #[.pointer (some ⟨jb, 0, none⟩), .int .i64 (i : Int)] w fun e w' => ∃ v', e = .returned (.tuple #[v', .int .i64 0]) ∧ w'.ownsRow w.heap.size 5 1 v' d.2.length (d.2.map B) ∧ Below w.heap.size w w' := by
  have hi := (List.getElem?_eq_some_iff.1 hd).1
  obtain ⟨g, o, rc, hrv, kd⟩ := tail_at (jrow h) (i := i) (u := d.1) (by rw [List.getElem?_map, hd]; rfl)
  have c1 : w.cell? ⟨jb, 1, none⟩ = some (.slice (some ⟨g, o, none⟩) y.recs.length rc) := ((jbox h).cell 1).trans (congrArg some hrv)
  have hrow := jdat h (List.mem_of_getElem? hd)
  obtain ⟨do', dc, hdv, _⟩ := own_slice hrow
  have HC : Hid _ := clone_any (vo := do') (n := d.2.length) (c := dc) w (by rw [← hdv]; exact own_by hrow) hl
  rw [hdv] at kd
  obtain ⟨n, hn⟩ : ∃ n, n = y.recs.length := ⟨_, rfl⟩
  rw [← hn] at c1 hi hr
  have hi2 : ¬ ((i : Int) < 0) := by omega
  have hi3 : ¬ ((n : Int) ≤ (i : Int)) := by omega
  clear h hd hrv hrow hdv hn hl
  go_enter Try.func32, Try.ntmps32
  go_wp2_with fail
  refine Calls.mono HC.out ?_
  rintro e w1 ⟨v', rfl, h1, h2⟩
  have HF : Hid (∃ v, v = v' ∧ w1.ownsRow w.heap.size 5 1 v' d.2.length (d.2.map B) ∧ Below w.heap.size w w1) := ⟨v', rfl, h1, h2⟩
  clear HC h1 h2
  go_wp2_with fail
  go_ret2
  obtain ⟨_, _, h1, h2⟩ := HF.out
  exact ⟨v', rfl, h1, h2⟩
set_option maxRecDepth 100000 in
theorem within_any (z : Int) (n : Nat) (w : World) (hz : -9223372036854775808 ≤ z ∧ z ≤ 9223372036854775807) (hn : 1 ≤ n ∧ n ≤ 100000) : Calls Try.prog 10 #[.int .i64 z, .int .i64 (n : Int)] w fun e w' => ∃ k : Nat, k < n ∧ e = .returned (.int .i64 (k : Int)) ∧ w' = w := by
  by_cases h0 : z < 0
  · obtain ⟨q, hq⟩ : ∃ q : Nat, (q : Int) = -(z + 1) := ⟨(-(z + 1)).toNat, by omega⟩
    have ht : (-(z + 1)).tmod (n : Int) = ((q % n : Nat) : Int) := by rw [← hq, Int.tmod_eq_emod_of_nonneg (by omega)]; omega
    have hne : ¬ (n : Int) = 0 := by omega
    have hlt : q % n < n := Nat.mod_lt _ (by omega)
    have HQ : Hid (q % n < n) := hlt
    generalize q % n = k at ht hlt HQ
    clear hq
    go_enter Try.func10, Try.ntmps10
    go_wp2_with fail
    go_ret
    exact ⟨k, HQ.out, rfl, rfl⟩
  · obtain ⟨q, hq⟩ : ∃ q : Nat, (q : Int) = z := ⟨z.toNat, by omega⟩
    subst hq
    have ht : (q : Int).tmod (n : Int) = ((q % n : Nat) : Int) := by rw [Int.tmod_eq_emod_of_nonneg (by omega)]; omega
    have hne : ¬ (n : Int) = 0 := by omega
    have hlt : q % n < n := Nat.mod_lt _ (by omega)
    have HQ : Hid (q % n < n) := hlt
    generalize q % n = k at ht hlt HQ
    go_enter Try.func10, Try.ntmps10
    go_wp2_with fail
    go_ret
    exact ⟨k, HQ.out, rfl, rfl⟩
end Go.Proofs.Ytjpdcahodmomgaa
