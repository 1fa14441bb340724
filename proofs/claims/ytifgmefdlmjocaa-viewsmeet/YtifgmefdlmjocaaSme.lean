import Derived.Test.YtifgmefdlmjocaaAl
namespace Go.Proofs.Ytifgmefdlmjocaa
open Go.RowKit Go.PlainAid Go.MapKept
set_option linter.unusedVariables false
set_option linter.unusedSimpArgs false
set_option maxRecDepth 100000 in
set_option maxHeartbeats 3200000 in
theorem same_any (a b : Ent) (W : World) : Calls Try.prog 24 #[viewV a, viewV b] W fun e w' => e = .returned (.bool (sameV a b)) ∧ Below W.heap.size W w' := by
  obtain ⟨ar, an, ac, arc, av, ad, au, ah⟩ := a
  obtain ⟨br, bn, bc, brc, bv, bd, bu, bh⟩ := b
  have HS : Hid (∀ w, _) := fun w => sameRights_any ad au bd bu w
  have HA : Hid (sameV ⟨ar, an, ac, arc, av, ad, au, ah⟩ ⟨br, bn, bc, brc, bv, bd, bu, bh⟩ = (an == bn && ac == bc && arc == brc && av == bv && ad == bd && au == bu && ah == bh)) := rfl
  unfold viewV
  simp only
  have hg : ∀ (x y : Obj), Below W.heap.size W ((W.alloc x).alloc y) := fun x y => ((Below.refl _ _).alloc (Nat.le_refl _) _).alloc (by simp) _
  have HG : Hid _ := hg
  clear hg
  cases g1 : an == bn with
  | false =>
    have hne : ¬ an = bn := by simpa using g1
    have HX : Hid _ := g1
    clear g1
    go_enter Try.func24, Try.ntmps24
    go_wp2_with fail
    go_ret
    exact ⟨ret_bool (by rw [HA.out, HX.out]; simp), HG.out _ _⟩
  | true =>
    obtain rfl : an = bn := by simpa using g1
    clear g1
    cases g2 : ac == bc with
    | false =>
      have HX : Hid _ := g2
      go_enter Try.func24, Try.ntmps24
      go_wp2_with fail
      go_ret
      exact ⟨ret_bool (by rw [HA.out, HX.out]; simp), HG.out _ _⟩
    | true =>
      cases g3 : arc == brc with
      | false =>
        have HX : Hid _ := g3
        go_enter Try.func24, Try.ntmps24
        go_wp2_with fail
        go_ret
        exact ⟨ret_bool (by rw [HA.out, HX.out]; simp), HG.out _ _⟩
      | true =>
        cases g4 : av == bv with
        | false =>
          have HX : Hid _ := g4
          go_enter Try.func24, Try.ntmps24
          go_wp2_with fail
          go_ret
          exact ⟨ret_bool (by rw [HA.out, HX.out]; simp), HG.out _ _⟩
        | true =>
          have X2 : Hid _ := g2
          have X3 : Hid _ := g3
          have X4 : Hid _ := g4
          have hB0 : ∀ k, k < W.heap.size + 2 → ∀ (w3 : World), Below (W.heap.size + 2) ((W.alloc (.cells #[.string ⟨an.toArray⟩, .int .i64 ac, .int .i64 arc, .int .i64 av, .int .i64 ad, .int .i64 au, .int .i64 ah] 46)).alloc (.cells #[.string ⟨an.toArray⟩, .int .i64 bc, .int .i64 brc, .int .i64 bv, .int .i64 bd, .int .i64 bu, .int .i64 bh] 46)) w3 → w3.heap[k]? = ((W.alloc (.cells #[.string ⟨an.toArray⟩, .int .i64 ac, .int .i64 arc, .int .i64 av, .int .i64 ad, .int .i64 au, .int .i64 ah] 46)).alloc (.cells #[.string ⟨an.toArray⟩, .int .i64 bc, .int .i64 brc, .int .i64 bv, .int .i64 bd, .int .i64 bu, .int .i64 bh] 46)).heap[k]? := fun k hk w3 h => h.block k hk
          have HB0 : Hid _ := hB0
          clear hB0
          go_enter Try.func24, Try.ntmps24
          go_wp2_with fail
          refine Calls.mono (HS.out _) ?_
          rintro e w3 ⟨rfl, hb3⟩
          have hsz : ((W.alloc (.cells #[.string ⟨an.toArray⟩, .int .i64 ac, .int .i64 arc, .int .i64 av, .int .i64 ad, .int .i64 au, .int .i64 ah] 46)).alloc (.cells #[.string ⟨an.toArray⟩, .int .i64 bc, .int .i64 brc, .int .i64 bv, .int .i64 bd, .int .i64 bu, .int .i64 bh] 46)).heap.size = W.heap.size + 2 := by simp
          rw [hsz] at hb3
          have q0 : Blk w3 W.heap.size #[.string ⟨an.toArray⟩, .int .i64 ac, .int .i64 arc, .int .i64 av, .int .i64 ad, .int .i64 au, .int .i64 ah] 46 := (HB0.out _ (by omega) w3 hb3).trans ((Below.heap_alloc _ _ _ (by simp)).trans (heap_alloc_new W _))
          have q1 : Blk w3 (W.heap.size + 1) #[.string ⟨an.toArray⟩, .int .i64 bc, .int .i64 brc, .int .i64 bv, .int .i64 bd, .int .i64 bu, .int .i64 bh] 46 := by
            have := heap_alloc_new (W.alloc (.cells #[.string ⟨an.toArray⟩, .int .i64 ac, .int .i64 arc, .int .i64 av, .int .i64 ad, .int .i64 au, .int .i64 ah] 46)) (.cells #[.string ⟨an.toArray⟩, .int .i64 bc, .int .i64 brc, .int .i64 bv, .int .i64 bd, .int .i64 bu, .int .i64 bh] 46)
            rw [World.size_alloc] at this
            exact (HB0.out _ (by omega) w3 hb3).trans this
          have k6 : w3.cell? ⟨W.heap.size, 6, none⟩ = some (.int .i64 ah) := q0.cell 6
          have m6 : w3.cell? ⟨W.heap.size + 1, 6, none⟩ = some (.int .i64 bh) := q1.cell 6
          have HB3 : Hid (Below W.heap.size W w3) := (HG.out _ _).trans (hb3.mono (by omega))
          clear hb3 hsz q0 q1 HB0
          have HAD : Hid (sameV ⟨ar, an, ac, arc, av, ad, au, ah⟩ ⟨br, an, bc, brc, bv, bd, bu, bh⟩ = ((ad == bd && au == bu) && ah == bh)) := show _ = _ from by rw [HA.out, X2.out, X3.out, X4.out]; simp [Bool.and_assoc]
          generalize (ad == bd && au == bu) = rr at *
          cases rr
          · go_wp2_with fail
            go_ret
            exact ⟨ret_bool (by rw [HAD.out]; simp), HB3.out⟩
          · cases g5 : ah == bh with
            | false =>
              have HX : Hid _ := g5
              go_wp2_with fail
              go_ret
              exact ⟨ret_bool (by rw [HAD.out, HX.out]; simp), HB3.out⟩
            | true =>
              have HX : Hid _ := g5
              go_wp2_with fail
              go_ret
              exact ⟨ret_bool (by rw [HAD.out, HX.out]; simp), HB3.out⟩
def nm4 : Nat → List UInt8
  | 0 => [97]
  | 1 => [98]
  | 2 => [98, 98]
  | _ => [126]
set_option maxRecDepth 100000 in
set_option maxHeartbeats 800000 in
theorem names_any (W : World) : Calls Try.prog 16 #[] W fun e w' => e = .returned (.agg #[.string ⟨#[97]⟩, .string ⟨#[98]⟩, .string ⟨#[98, 98]⟩, .string ⟨#[126]⟩]) ∧ Below W.heap.size W w' := by
  go_enter Try.func16, Try.ntmps16
  go_wp2_with fail
  have hB : Blk (W.alloc (.cells #[.string ⟨#[97]⟩, .string ⟨#[98]⟩, .string ⟨#[98, 98]⟩, .string ⟨#[126]⟩] 49)) W.heap.size #[.string ⟨#[97]⟩, .string ⟨#[98]⟩, .string ⟨#[98, 98]⟩, .string ⟨#[126]⟩] 49 := heap_alloc_new W _
  exact bodyPost_ret (results_cell_row Try.results16 _ _ W.heap.size 49 _ (0, 0) _ rfl hB Try.underlying49 rfl (by kernel_rfl)) rfl ⟨rfl, (Below.refl _ _).alloc (Nat.le_refl _) _⟩
end Go.Proofs.Ytifgmefdlmjocaa
