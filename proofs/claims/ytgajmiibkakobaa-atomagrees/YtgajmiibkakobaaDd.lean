import Derived.Test.YtgajmiibkakobaaTh
import Derived.Deep.Cut
import Derived.BigQuiet
namespace Go.Proofs.Ytgajmiibkakobaa
open Go.RowKit Go.PlainAid Go.MapKept
set_option linter.unusedVariables false
set_option linter.unusedSimpArgs false
set_option maxRecDepth 100000 in
set_option maxHeartbeats 3200000 in
theorem do_any {ab mb : Nat} {L : List (List UInt8 × Ct)} (k A B q : Int) (n : List UInt8) (w : World) (h : AM ab mb L w) (hn : n.length ≤ 140737488355328) :
    Calls Try.prog 12 #[.pointer (some ⟨ab, 0, none⟩), .agg #[.int .i64 k, .string ⟨n.toArray⟩, .int .i64 A, .int .i64 B], .int .i64 q] w fun e w' => ∃ hb', e = .returned (.tuple #[.int .i64 (mapO k A B q n L).1.1, .int .i64 (mapO k A B q n L).1.2]) ∧ AM ab mb (doL (mapO k A B q n L) n hb' L) w' ∧ ((mapO k A B q n L).1.2 = 0 → (∃ p ∈ L, p.2.hb = some hb') ∨ w.heap.size ≤ hb') ∧ Chg (ownA mb L) w w' := by
  obtain ⟨ob, hob⟩ : ∃ b, b = w.heap.size := ⟨_, rfl⟩
  obtain ⟨X, hX⟩ : ∃ X, X = w.alloc (.cells #[.int .i64 k, .string ⟨n.toArray⟩, .int .i64 A, .int .i64 B] 31) := ⟨_, rfl⟩
  have hbX : Below w.heap.size w X := by rw [hX]; exact (Below.refl _ _).alloc (Nat.le_refl _) _
  have Bob : Hid (Blk X ob #[.int .i64 k, .string ⟨n.toArray⟩, .int .i64 A, .int .i64 B] 31) := show Blk X ob #[.int .i64 k, .string ⟨n.toArray⟩, .int .i64 A, .int .i64 B] 31 from by rw [hX, hob]; exact heap_alloc_new w _
  have HBX : Hid (Below w.heap.size w X) := hbX
  have HAM : Hid (AM ab mb L X) := h.more hbX
  have HPL : Hid (Calls Try.prog 22 #[.pointer (some ⟨ab, 0, none⟩), .agg #[.int .i64 k, .string ⟨n.toArray⟩, .int .i64 A, .int .i64 B], .int .i64 q] X (PlPost (hbOf k n L) n (mapO k A B q n L) X)) := plan_any k A B q n X HAM.out hn
  have HOK : Hid (∀ hb', (mapO k A B q n L).1.2 = 0 → (Ct.mk n (mapO k A B q n L).2.1 (mapO k A B q n L).2.2.1 (mapO k A B q n L).2.2.2.1 (some hb') (mapO k A B q n L).2.2.2.2).Ok) := fun hb' h0 => mapO_ok (fun p hp => (h.ct p hp).2.1) k A B q n hb' h0
  have HH0 : Hid (∀ x, hbOf k n L = some x → ∃ c, (n, c) ∈ L ∧ c.hb = some x) := hbOf_in
  generalize mapO k A B q n L = R at *
  generalize hbOf k n L = hb0 at *
  have o0 : X.cell? ⟨ob, 0, none⟩ = some (.int .i64 k) := Bob.out.cell 0
  have o1 : X.cell? ⟨ob, 1, none⟩ = some (.string ⟨n.toArray⟩) := Bob.out.cell 1
  have o2 : X.cell? ⟨ob, 2, none⟩ = some (.int .i64 A) := Bob.out.cell 2
  have o3 : X.cell? ⟨ob, 3, none⟩ = some (.int .i64 B) := Bob.out.cell 3
  clear h hn hbX
  go_enter Try.func12, Try.ntmps12
  go_upto_region 1 with fail
  rw [← hX, ← hob]
  clear hX hob
  go_wp2_with fail
  refine Calls.mono HPL.out ?_
  rintro e9 w1 ⟨fv, rfl, hone, hb1, hdo⟩
  have hst : ∀ (A : Addr) (m : Mode) (W : World), (store A fv m).run Try.prog W = stored Try.prog W A fv m := fun A m W => run_store _ _ _ _ _ hone
  obtain ⟨db, hdb⟩ : ∃ b, b = w1.heap.size := ⟨_, rfl⟩
  obtain ⟨V, hV⟩ : ∃ V, V = w1.alloc (.cells #[.int .i64 R.1.1, .int .i64 R.1.2, fv] 62) := ⟨_, rfl⟩
  have hbV : Below w1.heap.size w1 V := by rw [hV]; exact (Below.refl _ _).alloc (Nat.le_refl _) _
  have VD : Hid (Blk V db #[.int .i64 R.1.1, .int .i64 R.1.2, fv] 62) := show Blk V db #[.int .i64 R.1.1, .int .i64 R.1.2, fv] 62 from by rw [hV, hdb]; exact heap_alloc_new w1 _
  have HDL : Hid (w1.heap.size ≤ db) := show w1.heap.size ≤ db from by rw [hdb]; exact Nat.le_refl _
  have HXV : Hid (Below X.heap.size X V) := hb1.trans (hbV.mono hb1.size)
  have HAV : Hid (AM ab mb L V) := HAM.out.more HXV.out
  have HB1 : Hid (Below X.heap.size X w1) := hb1
  have HBV : Hid (Below w1.heap.size w1 V) := hbV
  have HDO : Hid _ := hdo
  go_upto_region 2 with fail
  rw [← hV, ← hdb]
  clear hV hdb hbV hb1 hdo o0 o1 o2 o3
  have v0 : V.cell? ⟨db, 0, none⟩ = some (.int .i64 R.1.1) := VD.out.cell 0
  have v1 : V.cell? ⟨db, 1, none⟩ = some (.int .i64 R.1.2) := VD.out.cell 1
  have v2 : V.cell? ⟨db, 2, none⟩ = some fv := VD.out.cell 2
  by_cases hr : R.1.2 = 0
  · have HR : Hid (R.1.2 = 0) := hr
    have HD : Hid (DoerAt X.heap.size w1.heap.size hb0 n R.2.1 R.2.2.1 R.2.2.2.1 R.2.2.2.2 fv V) := (HDO.out hr).at HBV.out (fun x hx => by obtain ⟨c, hc, hcb⟩ := HH0.out x hx; have := (HAM.out.lows).2.2 _ hc x hcb; have := HB1.out.size; omega)
    have HCA : Hid _ := carry_yes (lim := R.2.1) (val := R.2.2.1) (held := R.2.2.2.1) (H := R.2.2.2.2) R.1.1 fv V HAV.out HAM.out.lows HXV.out.size HD.out (fun hb' => HOK.out hb' hr) HH0.out
    rw [← hr] at HCA
    clear hr
    go_wp2_with fail
    refine Calls.mono HCA.out ?_
    rintro e9 w2 ⟨rfl, ⟨hb', hA, hh⟩, hc⟩
    have hV2 : Blk w2 db #[.int .i64 R.1.1, .int .i64 R.1.2, fv] 62 := hc.blk VD.out (by rintro (e | e | e); exact HAV.out.map.ne_b VD.out e; (obtain ⟨c, hcm, hcb⟩ := HH0.out _ e; obtain ⟨_, _, x, c1, dd, _⟩ := HAV.out.ct _ hcm; simp only at c1; rw [hcb] at c1; cases c1; exact dd.ne_b VD.out rfl); (have := HDL.out; omega))
    have HFA : Hid (AM ab mb (doL R n hb' L) w2) := show AM ab mb (doL R n hb' L) w2 from by unfold doL; rw [if_pos HR.out]; exact hA
    have HFC : Hid (Chg (ownA mb L) w w2) := (Chg.ofBelow _ (HBX.out.trans (HXV.out.mono HBX.out.size))).trans hc (fun j hj e => by rcases e with e | e | e; exact Or.inl e; (obtain ⟨c, hcm, hcb⟩ := HH0.out _ e; exact Or.inr ⟨_, hcm, hcb⟩); (have := HBX.out.size; omega))
    have u0 : w2.cell? ⟨db, 0, none⟩ = some (.int .i64 R.1.1) := hV2.cell 0
    have u1 : w2.cell? ⟨db, 1, none⟩ = some (.int .i64 R.1.2) := hV2.cell 1
    have HHB : Hid ((∃ p ∈ L, p.2.hb = some hb') ∨ w.heap.size ≤ hb') := show _ ∨ _ from hh.elim (fun e => by obtain ⟨c, hcm, hcb⟩ := HH0.out _ e; exact Or.inl ⟨_, hcm, hcb⟩) (fun e => Or.inr (by have := HBX.out.size; have := HXV.out.size; omega))
    clear hA hh hc hV2 v0 v1 v2
    first | go_end0 | skip
    go_wp2_with fail
    go_quiet (fail)
    go_wp2_with fail
    go_ret2
    exact ⟨hb', rfl, HFA.out.more (below_drewN (Below.refl _ _) _), fun _ => HHB.out, HFC.out.drewN _⟩
  · have HCA : Hid _ := carry_no (ab := ab) R fv V hr
    have HR : Hid (¬ R.1.2 = 0) := hr
    clear hr
    go_wp2_with fail
    refine Calls.mono HCA.out ?_
    rintro e9 w2 ⟨rfl, hb2⟩
    have hV2 : Blk w2 db #[.int .i64 R.1.1, .int .i64 R.1.2, fv] 62 := VD.out.below hb2 VD.out.lt
    have HFA : Hid (AM ab mb (doL R n 0 L) w2) := show AM ab mb (doL R n 0 L) w2 from by unfold doL; rw [if_neg HR.out]; exact HAV.out.more hb2
    have HFC : Hid (Chg (ownA mb L) w w2) := Chg.ofBelow _ ((HBX.out.trans (HXV.out.mono HBX.out.size)).trans (hb2.mono (HBX.out.trans (HXV.out.mono HBX.out.size)).size))
    have u0 : w2.cell? ⟨db, 0, none⟩ = some (.int .i64 R.1.1) := hV2.cell 0
    have u1 : w2.cell? ⟨db, 1, none⟩ = some (.int .i64 R.1.2) := hV2.cell 1
    clear hb2 hV2 v0 v1 v2
    first | go_end0 | skip
    go_wp2_with fail
    go_quiet (fail)
    go_wp2_with fail
    go_ret2
    exact ⟨0, rfl, HFA.out.more (below_drewN (Below.refl _ _) _), fun h => absurd h HR.out, HFC.out.drewN _⟩
theorem results_tmp4 {fn : Func} {t u v x : Tmp} (h : fn.results = #[.tmp t, .tmp u, .tmp v, .tmp x]) (tmps : Array Value) (P : Program) (w : World) :
    (results fn tmps).run P w = .ok (.tuple #[tmps.getD t undef, tmps.getD u undef, tmps.getD v undef, tmps.getD x undef]) w := by
  simp [results, h]
def ctOf (n : List UInt8) (L : List (List UInt8 × Ct)) : Ct := (Gm.look n L).getD zedC
def isOf (n : List UInt8) (L : List (List UInt8 × Ct)) : Bool := (Gm.look n L).isSome
set_option maxRecDepth 100000 in
set_option maxHeartbeats 1600000 in
theorem peek_any {ab mb : Nat} {L : List (List UInt8 × Ct)} (n : List UInt8) (w : World) (h : AM ab mb L w) :
    Calls Try.prog 13 #[.pointer (some ⟨ab, 0, none⟩), .string ⟨n.toArray⟩] w fun e w' => e = .returned (.tuple #[.int .i64 (ctOf n L).val, .int .i64 (ctOf n L).held, .int .i64 (ctOf n L).lim, .bool (isOf n L)]) ∧ Below w.heap.size w w' := by
  have hlk : (Instr.lookup 57 (.map (some mb)) (.string ⟨n.toArray⟩) true).run Try.prog w = .ok (.tuple #[.agg (ctOf n L).cs, .bool (isOf n L)]) w := h.map.look_ok n true
  generalize ctOf n L = c at *
  generalize isOf n L = b at *
  unfold Ct.cs at hlk
  have b0 : w.cell? ⟨ab, 0, none⟩ = some (.map (some mb)) := h.box.cell 0
  clear h
  obtain ⟨cb, hcb⟩ : ∃ x, x = w.heap.size := ⟨_, rfl⟩
  obtain ⟨X, hX⟩ : ∃ X, X = w.alloc (.cells #[.string ⟨c.nm.toArray⟩, .int .i64 c.lim, .int .i64 c.val, .int .i64 c.held, .map c.hb] 67) := ⟨_, rfl⟩
  have hB : Blk X cb #[.string ⟨c.nm.toArray⟩, .int .i64 c.lim, .int .i64 c.val, .int .i64 c.held, .map c.hb] 67 := by rw [hX, hcb]; exact heap_alloc_new w _
  have x1 : X.cell? ⟨cb, 1, none⟩ = some (.int .i64 c.lim) := hB.cell 1
  have x2 : X.cell? ⟨cb, 2, none⟩ = some (.int .i64 c.val) := hB.cell 2
  have x3 : X.cell? ⟨cb, 3, none⟩ = some (.int .i64 c.held) := hB.cell 3
  have HX : Hid (Below w.heap.size w X) := show Below w.heap.size w X from by rw [hX]; exact (Below.refl _ _).alloc (Nat.le_refl _) _
  clear hB
  go_enter Try.func13, Try.ntmps13
  go_upto_region 2 with fail
  rw [← hX, ← hcb]
  clear hX hcb hlk b0
  go_wp2_with fail
  go_quiet (fail)
  go_wp2_with fail
  refine bodyPost_ret (results_tmp4 rfl _ _ _) rfl ?_
  exact ⟨by first | rfl | simp, below_drewN HX.out _⟩
set_option maxRecDepth 100000 in
theorem new_any (w : World) : Calls Try.prog 10 #[] w fun e w' => e = .returned (.pointer (some ⟨w.heap.size + 1, 0, none⟩)) ∧ AM (w.heap.size + 1) w.heap.size [] w' ∧ Below w.heap.size w w' := by
  have hmm := @run_makeMap Try.prog
  go_enter Try.func10, Try.ntmps10
  go_wp2_with fail
  go_ret
  have g1 : Below w.heap.size w (w.alloc (.map #[] 0)) := (Below.refl _ _).alloc (Nat.le_refl _) _
  refine ⟨rfl, ⟨?_, ?_, (fun p hp => by cases hp), List.Pairwise.nil, List.Pairwise.nil⟩, g1.alloc (by simp) _⟩
  · have := heap_alloc_new (w.alloc (.map #[] 0)) (.cells #[.map (some w.heap.size)] 59)
    rw [World.size_alloc] at this
    exact this
  · exact (Gm.HMap.made (M := MC) w).same (((Below.refl _ _).alloc (Nat.le_refl _) _).block _ (by simp))
end Go.Proofs.Ytgajmiibkakobaa
