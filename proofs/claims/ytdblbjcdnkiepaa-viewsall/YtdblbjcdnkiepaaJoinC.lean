import Derived.Test.YtdblbjcdnkiepaaRs11
import Derived.Test.YtdblbjcdnkiepaaJoinD
import Derived.Test.YtdblbjcdnkiepaaArgsT
namespace Go.Proofs.Ytdblbjcdnkiepaa
open Go.RowKit Go.PlainAid Go.MapKept
set_option maxRecDepth 100000 in
theorem runs_any (me peer n lo hi : Int) (ao : Option Addr) (Ns cap : Nat) (os : List OpA) (w : World) (hcm : Ns ≤ maxLen) (hr : RunOk (fun _ => True) ao Ns os w) :
    Calls Try.prog 20 #[.int .i64 me, .int .i64 peer, .int .i64 n, .slice ao Ns cap, .int .i64 lo, .int .i64 hi] w fun e w' => e = .returned (.bool true) ∧ Below w.heap.size w w' := by
  by_cases ha : newCode me n = 0
  · by_cases hb : newCode peer n = 0
    · exact runs_11 me peer n lo hi ao Ns cap os w hcm hr ha hb
    · exact runs_10 me peer n lo hi ao Ns cap os w hcm hr ha hb
  · by_cases hb : newCode peer n = 0
    · exact runs_01 me peer n lo hi ao Ns cap os w hcm hr ha hb
    · exact runs_00 me peer n lo hi ao Ns cap os w hcm hr ha hb
end Go.Proofs.Ytdblbjcdnkiepaa
namespace Go.Proofs.Ytdblbjcdnkiepaa
open Go.RowKit Go.PlainAid Go.MapKept
set_option maxRecDepth 100000 in
theorem viewsAll_law (me peer n : Int) (ao : Option Addr) (Ns cap : Nat) (os : List OpA) (w : World) (hcm : Ns ≤ maxLen) (hr : RunOk (fun _ => True) ao Ns os w) :
    Calls Try.prog 8 #[.int .i64 me, .int .i64 peer, .int .i64 n, .slice ao Ns cap] w fun e w' => e = .returned (.bool true) ∧ Below w.heap.size w w' := by
  have HH : Hid _ := runs_any me peer n 3 5 ao Ns cap os w hcm hr
  clear hr hcm
  go_enter Try.func8, Try.ntmps8
  go_wp2_with fail
  refine Calls.mono HH.out ?_
  rintro e w1 ⟨rfl, hb1⟩
  go_wp2_with fail
  go_ret
  exact ⟨rfl, hb1⟩
end Go.Proofs.Ytdblbjcdnkiepaa
namespace Go.Proofs.Ytdblbjcdnkiepaa.viewsAll
open Go.ChangeShapes Go.WideShapes Go.ChangeAt Go.RowKit Go.WideMaps Go.WideElems

set_option maxRecDepth 100000 in
set_option maxHeartbeats 1600000 in
theorem contract (H : Type) (enc : TypeId × Value → H) (W : World) (base : Nat) (args : Array Value) (ds gs : List (DataW H)) (before : List MemPlace)
    (hval : ∀ (j : Nat) t v, Try.f8.params[j]? = some t → args[j]? = some v → Value.okWide Try.prog W .any base t v)
    (hW : DataW.Whole enc Try.prog Try.f8.params.toList Rows.viewsAllSpec.vars false W args.toList ds gs before)
    (hsz : (DataW.weightsEach Try.prog (Try.f8.params.toList ++ Rows.viewsAllSpec.plain.varTypes Try.prog) (ds ++ gs)).all (· ≤ reachBytes) = true) :
    Calls Try.prog 8 args W fun e W' => ∃ v, e = .returned v ∧ Rows.viewsAllSpec.post enc Try.prog Try.f8 false true false false W args v W' := by
  have hW' := hW
  obtain ⟨p, q, hA0, hV, rfl, hfz, hnd⟩ := hW
  have hA : DataW.TrodAll enc Try.prog W 0 (fun _ => true) true Try.f8.params.toList args.toList ds p := hA0
  rw [Try.params8] at hA hval
  obtain ⟨v0, vs0, d0, ds0, p0, q0, hargs, rfl, rfl, h0, r0⟩ := trodAll_cons hA
  obtain ⟨v1, vs1, d1, ds1, p1, q1, rfl, rfl, rfl, h1, r1⟩ := trodAll_cons r0
  obtain ⟨v2, vs2, d2, ds2, p2, q2, rfl, rfl, rfl, h2, r2⟩ := trodAll_cons r1
  obtain ⟨v3, vs3, d3, ds3, p3, q3, rfl, rfl, rfl, h3, r3⟩ := trodAll_cons r2
  obtain ⟨rfl, rfl, rfl⟩ := trodAll_nil r3
  obtain rfl : args = #[v0, v1, v2, v3] := by cases args; simp_all
  obtain ⟨rfl, rfl⟩ := trodVars_none hV
  clear hA0 r0 r1 r2 r3 hA
  obtain ⟨z0, rfl, rfl, rfl, w0⟩ := open_int Try.underlying3 (hval 0 3 v0 rfl rfl) h0
  obtain ⟨z1, rfl, rfl, rfl, w1⟩ := open_int Try.underlying3 (hval 1 3 v1 rfl rfl) h1
  obtain ⟨z2, rfl, rfl, rfl, w2⟩ := open_int Try.underlying3 (hval 2 3 v2 rfl rfl) h2
  have hlt3 : ∀ x ∈ p3, x.block < W.heap.size := fun x hx => hW'.lt x (by simp [hx])
  have hw3 : ∀ n ∈ d3.weights Try.prog 59, n ≤ reachBytes := fun n hn => by
    have := List.all_eq_true.1 hsz n (DataW.weights_mem_each (j := 3) (t := 59) (d := d3) (by rw [Try.params8]; rfl) rfl n hn)
    simpa using this
  obtain ⟨ao3, N3, cap3, os3, rfl, hcm3, hr3⟩ := open_script (hval 3 59 v3 rfl rfl) h3 hw3
  refine (viewsAll_law z0 z1 z2 ao3 N3 cap3 os3 W hcm3 hr3).mono fun e W' ⟨he, hbl⟩ => ?_
  subst he
  exact ⟨_, rfl, _, _, _, [], _, [], hW', trodAll_cons_mk (shut_bool Try.underlying4 _) trodAll_mk0, trodAll_cons_mk (shut_int Try.underlying3 w0) (trodAll_cons_mk (shut_int Try.underlying3 w1) (trodAll_cons_mk (shut_int Try.underlying3 w2) (trodAll_cons_mk (Below.trod laidOut (by kernel_rfl) (of_decide_eq_true (by kernel_rfl)) h3 hbl hlt3) trodAll_mk0))), rfl, hbl.frame _, fun h => by cases h⟩

set_option maxRecDepth 100000 in
theorem lifted (os : Os) (started : os.Started) (H : Type) (enc : TypeId × Value → H) :
    ReturnsInHanded {} Try.checked os 8 .any (Rows.viewsAllSpec.pre6 enc Try.prog Try.f8 Rows.viewsAllRow.domain false) (Rows.viewsAllSpec.post enc Try.prog Try.f8 false true false false) := by
  refine returnsInHanded_of_change_sized (C := Try.checked) (s := Rows.viewsAllSpec) own_knob started (by kernel_rfl) Try.func8
    (ChangeSpec.witness6 (enc := enc) (C := Try.checked) (s := Rows.viewsAllSpec) false ⟨#[], #[.int .i64 0, .int .i64 0, .int .i64 0, .slice none 0 0], []⟩ 8 (by kernel_rfl) (by kernel_rfl) (by kernel_rfl) (by kernel_rfl)) ?_
  intro W base args ds gs before hval hW _ hsz _
  exact contract H enc W base args ds gs before hval hW hsz

theorem said : Rows.ViewsAllSaid :=
  OpenClaim.holds_of_wide 8 Try.f8 rfl rfl rfl rfl rfl rfl rfl ⟨rfl, rfl, rfl, rfl, rfl⟩ rfl rfl rfl rfl rfl (by kernel_rfl) Try.func8 (by kernel_rfl)
    (of_decide_eq_true (by kernel_rfl)) (by unfold Func.isWrapper; first | (rw [if_pos (by decide +kernel)]; kernel_rfl) | (rw [if_neg (by decide +kernel)]; exact ⟨rfl, rfl⟩))
    (fun os started H enc _ => lifted os started H enc)
end Go.Proofs.Ytdblbjcdnkiepaa.viewsAll

namespace Go.Proofs.Ytdblbjcdnkiepaa
theorem viewsAll_said : Rows.ViewsAllSaid := viewsAll.said
end Go.Proofs.Ytdblbjcdnkiepaa
