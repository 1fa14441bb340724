import Derived.Test.YtjpdcahodmomgaaArgs

import Derived.Test.YtjpdcahodmomgaaJn22
namespace Go.Proofs.Ytjpdcahodmomgaa.journalApart
open Go.ChangeShapes Go.WideShapes Go.ChangeAt Go.RowKit Go.WideMaps Go.WideElems

set_option maxRecDepth 100000 in
set_option maxHeartbeats 1600000 in
theorem contract (H : Type) (enc : TypeId × Value → H) (W : World) (base : Nat) (args : Array Value) (ds gs : List (DataW H)) (before : List MemPlace)
    (hval : ∀ (j : Nat) t v, Try.f4.params[j]? = some t → args[j]? = some v → Value.okWide Try.prog W .any base t v)
    (hW : DataW.Whole enc Try.prog Try.f4.params.toList Rows.journalApartSpec.vars false W args.toList ds gs before)
    (hsz : (DataW.weightsEach Try.prog (Try.f4.params.toList ++ Rows.journalApartSpec.plain.varTypes Try.prog) (ds ++ gs)).all (· ≤ reachBytes) = true) :
    Calls Try.prog 4 args W fun e W' => ∃ v, e = .returned v ∧ Rows.journalApartSpec.post enc Try.prog Try.f4 false true false false W args v W' := by
  have hW' := hW
  obtain ⟨p, q, hA0, hV, rfl, hfz, hnd⟩ := hW
  have hA : DataW.TrodAll enc Try.prog W 0 (fun _ => true) true Try.f4.params.toList args.toList ds p := hA0
  rw [Try.params4] at hA hval
  obtain ⟨v0, vs0, d0, ds0, p0, q0, hargs, rfl, rfl, h0, r0⟩ := trodAll_cons hA
  obtain ⟨v1, vs1, d1, ds1, p1, q1, rfl, rfl, rfl, h1, r1⟩ := trodAll_cons r0
  obtain ⟨rfl, rfl, rfl⟩ := trodAll_nil r1
  obtain rfl : args = #[v0, v1] := by cases args; simp_all
  obtain ⟨rfl, rfl⟩ := trodVars_none hV
  clear hA0 r0 r1 hA
  have hlt0 : ∀ x ∈ p0, x.block < W.heap.size := fun x hx => hW'.lt x (by simp [hx])
  have hw0 : ∀ n ∈ d0.weights Try.prog 30, n ≤ reachBytes := fun n hn => by
    have := List.all_eq_true.1 hsz n (DataW.weights_mem_each (j := 0) (t := 30) (d := d0) (by rw [Try.params4]; rfl) rfl n hn)
    simpa using this
  obtain ⟨ao0, N0, cap0, os0, rfl, hl0, hncx0, hcmx0, hok0, hnl0, hat0⟩ := open_rows 30 38 1 (fun d : Dv => [d.v]) (fun d : Dv => (∃ uo k uc, d.v = .slice uo k uc ∧ k ≤ uc) ∧ By W d.v d.s ∧ d.s.length ≤ reachBytes) Try.underlying30 cells30 (by decide) (fun _ => rfl) (fun _ _ _ h hw => t_bytesA h hw) (hval 0 30 v0 rfl rfl) h0 hw0
  have hcm0 := And.intro hncx0 hcmx0
  have hlt1 : ∀ x ∈ p1, x.block < W.heap.size := fun x hx => hW'.lt x (by simp [hx])
  have hw1 : ∀ n ∈ d1.weights Try.prog 30, n ≤ reachBytes := fun n hn => by
    have := List.all_eq_true.1 hsz n (DataW.weights_mem_each (j := 1) (t := 30) (d := d1) (by rw [Try.params4]; rfl) rfl n hn)
    simpa using this
  obtain ⟨ao1, N1, cap1, os1, rfl, hl1, hncx1, hcmx1, hok1, hnl1, hat1⟩ := open_rows 30 38 1 (fun d : Dv => [d.v]) (fun d : Dv => (∃ uo k uc, d.v = .slice uo k uc ∧ k ≤ uc) ∧ By W d.v d.s ∧ d.s.length ≤ reachBytes) Try.underlying30 cells30 (by decide) (fun _ => rfl) (fun _ _ _ h hw => t_bytesA h hw) (hval 1 30 v1 rfl rfl) h1 hw1
  have hcm1 := And.intro hncx1 hcmx1
  refine (apart_law W (rows_of hl0 hcm0 hok0 hat0) (rows_of hl1 hcm1 hok1 hat1)).mono fun e W' ⟨he, hbl⟩ => ?_
  subst he
  exact ⟨_, rfl, _, _, _, [], _, [], hW', trodAll_cons_mk (shut_bool Try.underlying4 _) trodAll_mk0, trodAll_cons_mk (Below.trod laidOut (by kernel_rfl) (of_decide_eq_true (by kernel_rfl)) h0 hbl hlt0) (trodAll_cons_mk (Below.trod laidOut (by kernel_rfl) (of_decide_eq_true (by kernel_rfl)) h1 hbl hlt1) trodAll_mk0), rfl, hbl.frame _, fun h => by cases h⟩

set_option maxRecDepth 100000 in
theorem lifted (os : Os) (started : os.Started) (H : Type) (enc : TypeId × Value → H) :
    ReturnsInHanded {} Try.checked os 4 .any (Rows.journalApartSpec.pre6 enc Try.prog Try.f4 Rows.journalApartRow.domain false) (Rows.journalApartSpec.post enc Try.prog Try.f4 false true false false) := by
  refine returnsInHanded_of_change_sized (C := Try.checked) (s := Rows.journalApartSpec) own started (by kernel_rfl) Try.func4
    (ChangeSpec.witness6 (enc := enc) (C := Try.checked) (s := Rows.journalApartSpec) false ⟨#[], #[.slice none 0 0, .slice none 0 0], []⟩ 8 (by kernel_rfl) (by kernel_rfl) (by kernel_rfl) (by kernel_rfl)) ?_
  intro W base args ds gs before hval hW _ hsz _
  exact contract H enc W base args ds gs before hval hW hsz

theorem said : Rows.JournalApartSaid :=
  OpenClaim.holds_of_wide 4 Try.f4 rfl rfl rfl rfl rfl rfl rfl ⟨rfl, rfl, rfl, rfl, rfl⟩ rfl rfl rfl rfl rfl (by kernel_rfl) Try.func4 (by kernel_rfl)
    (of_decide_eq_true (by kernel_rfl)) (by unfold Func.isWrapper; first | (rw [if_pos (by decide +kernel)]; kernel_rfl) | (rw [if_neg (by decide +kernel)]; exact ⟨rfl, rfl⟩))
    (fun os started H enc _ => lifted os started H enc)
end Go.Proofs.Ytjpdcahodmomgaa.journalApart

namespace Go.Proofs.Ytjpdcahodmomgaa
theorem journalApart_said : Rows.JournalApartSaid := journalApart.said
end Go.Proofs.Ytjpdcahodmomgaa
