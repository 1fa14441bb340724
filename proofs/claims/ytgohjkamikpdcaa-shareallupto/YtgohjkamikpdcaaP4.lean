import Derived.Test.YtgohjkamikpdcaaP3
namespace Go.Proofs.Ytgohjkamikpdcaa
open Go.RowKit Go.PlainAid
set_option linter.unusedVariables false
set_option linter.unusedSimpArgs false
set_option maxRecDepth 100000 in
set_option maxHeartbeats 6400000 in
theorem played4 {ao : Option Addr} {n c kb : Nat} {zs : List Int} (a b : Int) (haw : IntKind.i64.wrap a = a) (w : World) (hl : zs.length = n) (hnil : ao = none → n = 0 ∧ c = 0) (hx : FromI w ao zs) (hn : (n + 2) * 8 ≤ 140737488355328) :
    Calls Try.prog 15 #[.pointer (some ⟨kb, 0, none⟩), .agg #[.int .i64 4, .int .i64 a, .int .i64 b, .slice ao n c]] w fun r w' => r = .returned (.bool true) ∧ Below w.heap.size w w' := by
  have hle := lent_any (c := c) (w.alloc (.cells #[.int .i64 4, .int .i64 a, .int .i64 b, .slice ao n c] 47)) hl hnil (hx.all ((Below.refl _ _).alloc (Nat.le_refl _) _)) hn
  have hsz : (w.alloc (.cells #[.int .i64 4, .int .i64 a, .int .i64 b, .slice ao n c] 47)).heap.size = w.heap.size + 1 := World.size_alloc _ _
  have hc3 : (w.alloc (.cells #[.int .i64 4, .int .i64 a, .int .i64 b, .slice ao n c] 47)).cell? ⟨w.heap.size, 3, none⟩ = some (.slice ao n c) := Blk.cell (show Blk _ _ #[.int .i64 4, .int .i64 a, .int .i64 b, .slice ao n c] 47 from heap_alloc_new w _) 3
  rw [hsz] at hle
  have HX : Hid (FromI w ao zs) := hx
  have HNIL : Hid (ao = none → n = 0 ∧ c = 0) := hnil
  have HAO : Hid (0 < zs.length → ∀ b off, ao = some ⟨b, off, none⟩ → b < w.heap.size) := fun h0 b off e => by subst e; exact hx.lt h0
  clear hx hsz hnil
  go_enter Try.func15, Try.ntmps15
  go_wp2_with fail
  refine hle.mono ?_
  rintro e w1 ⟨g, cap, rfl, hcap, hrow, hb1⟩
  have hP : PB (fun _ => False) w 4 a b ao n c zs g cap (zs ++ [77, 78]) w1 := PB.start _ HX.out hb1 hrow
  have hnc : n ≤ cap := by omega
  have b0 := hP.c0
  have b1 := hP.c1
  have b2 := hP.c2
  have b3 := hP.c3
  have HP : Hid _ := hP
  clear hrow hb1 hP hle hc3 HX
  go_wp2_with fail
  have hk1 := fun q => give_any a b haw (w1.drewN q)
  have hk2 := fun q => rgive_any a b haw (w1.drewN q)
  go_quiet (first | (go_at_call 11; exact Calls.quiet_of_same (hk1 _)) | (go_at_call 28; exact Calls.quiet_of_same (hk2 _)) | fail)
  generalize hw2 : w1.drewN _ = w2
  have HP2 : Hid (PB (fun _ => False) w 4 a b ao n c zs g cap (zs ++ [77, 78]) w2) := by rw [← hw2]; exact HP.out.drewN _
  clear hw2 hk1 hk2 HP
  clear b0 b1 b2 b3
  have hback := back_any (c := c) w2 hl HP2.out.src hn HP2.out.row hcap
  have b3 := HP2.out.c3
  go_wp2_with fail
  refine hback.mono ?_
  rintro e w3 ⟨rfl, hr3, hc3⟩
  have hP3 := HP2.out.over hc3 hr3 HAO.out
  have c0 := hP3.c0
  have c1 := hP3.c1
  have c2 := hP3.c2
  have c3 := hP3.c3
  have HP3 : Hid _ := hP3
  have hrow5 := hP3.row
  rw [five] at hrow5
  have HR5 : Hid _ := own_take hrow5 (m := n) (by simp)
  have HF5 : Hid (FromI w3 (some ⟨g, 0, none⟩) (List.replicate n 5)) := by
    obtain ⟨_, _, e, _, _, _, hf, _⟩ := own_from HR5.out
    cases e
    exact hf
  clear hr3 hc3 hP3 hrow5 hback HP2 b3
  go_wp2_with (first
    | (at_builtin; go_must (refine wpList_copy rfl _ _ rfl rfl (some ⟨g, 0, none⟩) n cap (List.replicate n 5) rfl (by simp) (by intro h; cases h) HF5.out (by omega) ?_))
    | fail)
  intro vo vc w4 h4 hb4
  replace h4 : w4.ownsRow w3.heap.size 3 1 (.slice vo n vc) n ((List.replicate n (5 : Int)).map I) := by rw [List.map_replicate]; exact h4
  have hP4 := HP3.out.more hb4
  have d0 := hP4.c0
  have d1 := hP4.c1
  have d2 := hP4.c2
  have d3 := hP4.c3
  have HP4 : Hid _ := hP4
  have hf4 : FromI w4 (some ⟨g, 0, none⟩) (List.replicate n 5) := FromI.all HF5.out hb4
  have hg4 : FromI w4 vo (List.replicate n 5) := by
    obtain ⟨_, _, e, _, _, _, hf, _⟩ := own_from h4
    cases e
    exact hf
  have HF4 : Hid (FromI w4 (some ⟨g, 0, none⟩) (List.replicate n 5)) := hf4
  have HG4 : Hid (FromI w4 vo (List.replicate n 5)) := hg4
  clear h4 hb4 hP4 hf4 hg4 HP3 HR5 HF5 c0 c1 c2 c3
  go_wp2
  go_ret
  exact ⟨rfl, HP4.out.chg.below (Nat.le_refl _) (fun _ e => e.elim)⟩
end Go.Proofs.Ytgohjkamikpdcaa
