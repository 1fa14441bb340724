import Derived.Test.YtjpdcahodmomgaaArgs

import Derived.Test.YtjpdcahodmomgaaArgsT
namespace Go.Proofs.Ytjpdcahodmomgaa.journalTorn
open Go.ChangeShapes Go.WideShapes Go.ChangeAt Go.RowKit Go.WideMaps Go.WideElems

set_option maxRecDepth 100000 in
set_option maxHeartbeats 1600000 in
theorem contract (H : Type) (enc : TypeId × Value → H) (W : World) (base : Nat) (args : Array Value) (ds gs : List (DataW H)) (before : List MemPlace)
    (hval : ∀ (j : Nat) t v, Try.f6.params[j]? = some t → args[j]? = some v → Value.okWide Try.prog W .any base t v)
    (hW : DataW.Whole enc Try.prog Try.f6.params.toList Rows.journalTornSpec.vars false W args.toList ds gs before)
    (hsz : (DataW.weightsEach Try.prog (Try.f6.params.toList ++ Rows.journalTornSpec.plain.varTypes Try.prog) (ds ++ gs)).all (· ≤ reachBytes) = true) :
    Calls Try.prog 6 args W fun e W' => ∃ v, e = .returned v ∧ Rows.journalTornSpec.post enc Try.prog Try.f6 false true false false W args v W' := by
  have hW' := hW
  obtain ⟨p, q, hA0, hV, rfl, hfz, hnd⟩ := hW
  have hA : DataW.TrodAll enc Try.prog W 0 (fun _ => true) true Try.f6.params.toList args.toList ds p := hA0
  rw [Try.params6] at hA hval
  obtain ⟨v0, vs0, d0, ds0, p0, q0, hargs, rfl, rfl, h0, r0⟩ := trodAll_cons hA
  obtain ⟨v1, vs1, d1, ds1, p1, q1, rfl, rfl, rfl, h1, r1⟩ := trodAll_cons r0
  obtain ⟨v2, vs2, d2, ds2, p2, q2, rfl, rfl, rfl, h2, r2⟩ := trodAll_cons r1
  obtain ⟨v3, vs3, d3, ds3, p3, q3, rfl, rfl, rfl, h3, r3⟩ := trodAll_cons r2
  obtain ⟨v4, vs4, d4, ds4, p4, q4, rfl, rfl, rfl, h4, r4⟩ := trodAll_cons r3
  obtain ⟨v5, vs5, d5, ds5, p5, q5, rfl, rfl, rfl, h5, r5⟩ := trodAll_cons r4
  obtain ⟨rfl, rfl, rfl⟩ := trodAll_nil r5
  obtain rfl : args = #[v0, v1, v2, v3, v4, v5] := by cases args; simp_all
  obtain ⟨rfl, rfl⟩ := trodVars_none hV
  clear hA0 r0 r1 r2 r3 r4 r5 hA
  obtain ⟨y40, y41, y42, rfl, wz4⟩ := open_arr3 (hval 4 55 v4 rfl rfl) h4
  obtain ⟨y50, y51, y52, rfl, wz5⟩ := open_arr3 (hval 5 55 v5 rfl rfl) h5
  have hlt0 : ∀ x ∈ p0, x.block < W.heap.size := fun x hx => hW'.lt x (by simp [hx])
  have hw0 : ∀ n ∈ d0.weights Try.prog 30, n ≤ reachBytes := fun n hn => by
    have := List.all_eq_true.1 hsz n (DataW.weights_mem_each (j := 0) (t := 30) (d := d0) (by rw [Try.params6]; rfl) rfl n hn)
    simpa using this
  obtain ⟨ao0, N0, cap0, os0, rfl, hl0, hncx0, hcmx0, hok0, hnl0, hat0⟩ := open_rows 30 38 1 (fun d : Dv => [d.v]) (fun d : Dv => (∃ uo k uc, d.v = .slice uo k uc ∧ k ≤ uc) ∧ By W d.v d.s ∧ d.s.length ≤ reachBytes) Try.underlying30 cells30 (by decide) (fun _ => rfl) (fun _ _ _ h hw => t_bytesA h hw) (hval 0 30 v0 rfl rfl) h0 hw0
  have hcm0 := And.intro hncx0 hcmx0
  have hlt1 : ∀ x ∈ p1, x.block < W.heap.size := fun x hx => hW'.lt x (by simp [hx])
  have hw1 : ∀ n ∈ d1.weights Try.prog 38, n ≤ reachBytes := fun n hn => by
    have := List.all_eq_true.1 hsz n (DataW.weights_mem_each (j := 1) (t := 38) (d := d1) (by rw [Try.params6]; rfl) rfl n hn)
    simpa using this
  obtain ⟨ao1, N1, cap1, os1, rfl, hl1, hncx1, hcmx1, hok1, hnl1, hat1⟩ := open_rows 38 5 1 (fun u : UInt8 => [B u]) (fun _ => True) Try.underlying38 cells5 (by decide) (fun _ => rfl) (fun _ _ _ h _ => by obtain ⟨u, e⟩ := t_u8 Try.underlying5 h; exact ⟨u, e, trivial⟩) (hval 1 38 v1 rfl rfl) h1 hw1
  have hcm1 := And.intro hncx1 hcmx1
  have hlt2 : ∀ x ∈ p2, x.block < W.heap.size := fun x hx => hW'.lt x (by simp [hx])
  have hw2 : ∀ n ∈ d2.weights Try.prog 38, n ≤ reachBytes := fun n hn => by
    have := List.all_eq_true.1 hsz n (DataW.weights_mem_each (j := 2) (t := 38) (d := d2) (by rw [Try.params6]; rfl) rfl n hn)
    simpa using this
  obtain ⟨ao2, N2, cap2, os2, rfl, hl2, hncx2, hcmx2, hok2, hnl2, hat2⟩ := open_rows 38 5 1 (fun u : UInt8 => [B u]) (fun _ => True) Try.underlying38 cells5 (by decide) (fun _ => rfl) (fun _ _ _ h _ => by obtain ⟨u, e⟩ := t_u8 Try.underlying5 h; exact ⟨u, e, trivial⟩) (hval 2 38 v2 rfl rfl) h2 hw2
  have hcm2 := And.intro hncx2 hcmx2
  have hlt3 : ∀ x ∈ p3, x.block < W.heap.size := fun x hx => hW'.lt x (by simp [hx])
  have hw3 : ∀ n ∈ d3.weights Try.prog 38, n ≤ reachBytes := fun n hn => by
    have := List.all_eq_true.1 hsz n (DataW.weights_mem_each (j := 3) (t := 38) (d := d3) (by rw [Try.params6]; rfl) rfl n hn)
    simpa using this
  obtain ⟨ao3, N3, cap3, os3, rfl, hl3, hncx3, hcmx3, hok3, hnl3, hat3⟩ := open_rows 38 5 1 (fun u : UInt8 => [B u]) (fun _ => True) Try.underlying38 cells5 (by decide) (fun _ => rfl) (fun _ _ _ h _ => by obtain ⟨u, e⟩ := t_u8 Try.underlying5 h; exact ⟨u, e, trivial⟩) (hval 3 38 v3 rfl rfl) h3 hw3
  have hcm3 := And.intro hncx3 hcmx3
  have hlt4 : ∀ x ∈ p4, x.block < W.heap.size := fun x hx => hW'.lt x (by simp [hx])
  have hw4 : ∀ n ∈ d4.weights Try.prog 55, n ≤ reachBytes := fun n hn => by
    have := List.all_eq_true.1 hsz n (DataW.weights_mem_each (j := 4) (t := 55) (d := d4) (by rw [Try.params6]; rfl) rfl n hn)
    simpa using this
  have hlt5 : ∀ x ∈ p5, x.block < W.heap.size := fun x hx => hW'.lt x (by simp [hx])
  have hw5 : ∀ n ∈ d5.weights Try.prog 55, n ≤ reachBytes := fun n hn => by
    have := List.all_eq_true.1 hsz n (DataW.weights_mem_each (j := 5) (t := 55) (d := d5) (by rw [Try.params6]; rfl) rfl n hn)
    simpa using this
  refine (torn_law (da := (.slice ao1 N1 cap1, os1)) (db := (.slice ao2 N2 cap2, os2)) (dc := (.slice ao3 N3 cap3, os3)) W (rows_of hl0 hcm0 hok0 hat0) (rb_of (by_of hl1 hnl1 hat1) hl1 hncx1 (rows_len Try.underlying38 bytes5' h1 hw1 rfl)) (rb_of (by_of hl2 hnl2 hat2) hl2 hncx2 (rows_len Try.underlying38 bytes5' h2 hw2 rfl)) (rb_of (by_of hl3 hnl3 hat3) hl3 hncx3 (rows_len Try.underlying38 bytes5' h3 hw3 rfl)) wz4 wz5).mono fun e W' ⟨he, hbl⟩ => ?_
  subst he
  exact ⟨_, rfl, _, _, _, [], _, [], hW', trodAll_cons_mk (shut_bool Try.underlying4 _) trodAll_mk0, trodAll_cons_mk (Below.trod laidOut (by kernel_rfl) (of_decide_eq_true (by kernel_rfl)) h0 hbl hlt0) (trodAll_cons_mk (Below.trod laidOut (by kernel_rfl) (of_decide_eq_true (by kernel_rfl)) h1 hbl hlt1) (trodAll_cons_mk (Below.trod laidOut (by kernel_rfl) (of_decide_eq_true (by kernel_rfl)) h2 hbl hlt2) (trodAll_cons_mk (Below.trod laidOut (by kernel_rfl) (of_decide_eq_true (by kernel_rfl)) h3 hbl hlt3) (trodAll_cons_mk (Below.trod laidOut (by kernel_rfl) (of_decide_eq_true (by kernel_rfl)) h4 hbl hlt4) (trodAll_cons_mk (Below.trod laidOut (by kernel_rfl) (of_decide_eq_true (by kernel_rfl)) h5 hbl hlt5) trodAll_mk0))))), rfl, hbl.frame _, fun h => by cases h⟩

set_option maxRecDepth 100000 in
theorem lifted (os : Os) (started : os.Started) (H : Type) (enc : TypeId × Value → H) :
    ReturnsInHanded {} Try.checked os 6 .any (Rows.journalTornSpec.pre6 enc Try.prog Try.f6 Rows.journalTornRow.domain false) (Rows.journalTornSpec.post enc Try.prog Try.f6 false true false false) := by
  refine returnsInHanded_of_change_sized (C := Try.checked) (s := Rows.journalTornSpec) own started (by kernel_rfl) Try.func6
    (ChangeSpec.witness6 (enc := enc) (C := Try.checked) (s := Rows.journalTornSpec) false ⟨#[], #[.slice none 0 0, .slice none 0 0, .slice none 0 0, .slice none 0 0, .agg #[.int .i64 0, .int .i64 0, .int .i64 0], .agg #[.int .i64 0, .int .i64 0, .int .i64 0]], []⟩ 8 (by kernel_rfl) (by kernel_rfl) (by kernel_rfl) (by kernel_rfl)) ?_
  intro W base args ds gs before hval hW _ hsz _
  exact contract H enc W base args ds gs before hval hW hsz

theorem said : Rows.JournalTornSaid :=
  OpenClaim.holds_of_wide 6 Try.f6 rfl rfl rfl rfl rfl rfl rfl ⟨rfl, rfl, rfl, rfl, rfl⟩ rfl rfl rfl rfl rfl (by kernel_rfl) Try.func6 (by kernel_rfl)
    (of_decide_eq_true (by kernel_rfl)) (by unfold Func.isWrapper; first | (rw [if_pos (by decide +kernel)]; kernel_rfl) | (rw [if_neg (by decide +kernel)]; exact ⟨rfl, rfl⟩))
    (fun os started H enc _ => lifted os started H enc)
end Go.Proofs.Ytjpdcahodmomgaa.journalTorn

namespace Go.Proofs.Ytjpdcahodmomgaa
theorem journalTorn_said : Rows.JournalTornSaid := journalTorn.said
end Go.Proofs.Ytjpdcahodmomgaa
