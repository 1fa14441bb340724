import Derived.Test.YtlajcaofpmjdlaaArgs
import Derived.Test.YtlajcaofpmjdlaaArgsO
import Derived.Test.YtlajcaofpmjdlaaApX
import Derived.Test.YtlajcaofpmjdlaaLwI
namespace Go.Proofs.Ytlajcaofpmjdlaa.diskImages
open Go.ChangeShapes Go.WideShapes Go.ChangeAt Go.RowKit Go.WideMaps Go.WideElems

set_option maxRecDepth 100000 in
set_option maxHeartbeats 1600000 in
theorem contract (H : Type) (enc : TypeId × Value → H) (W : World) (base : Nat) (args : Array Value) (ds gs : List (DataW H)) (before : List MemPlace)
    (hval : ∀ (j : Nat) t v, Try.f8.params[j]? = some t → args[j]? = some v → Value.okWide Try.prog W .any base t v)
    (hW : DataW.Whole enc Try.prog Try.f8.params.toList Rows.diskImagesSpec.vars false W args.toList ds gs before)
    (hsz : (DataW.weightsEach Try.prog (Try.f8.params.toList ++ Rows.diskImagesSpec.plain.varTypes Try.prog) (ds ++ gs)).all (· ≤ reachBytes) = true) :
    Calls Try.prog 8 args W fun e W' => ∃ v, e = .returned v ∧ Rows.diskImagesSpec.post enc Try.prog Try.f8 false true false false W args v W' := by
  have hW' := hW
  obtain ⟨p, q, hA0, hV, rfl, hfz, hnd⟩ := hW
  have hA : DataW.TrodAll enc Try.prog W 0 (fun _ => true) true Try.f8.params.toList args.toList ds p := hA0
  rw [Try.params8] at hA hval
  obtain ⟨v0, vs0, d0, ds0, p0, q0, hargs, rfl, rfl, h0, r0⟩ := trodAll_cons hA
  obtain ⟨v1, vs1, d1, ds1, p1, q1, rfl, rfl, rfl, h1, r1⟩ := trodAll_cons r0
  obtain ⟨v2, vs2, d2, ds2, p2, q2, rfl, rfl, rfl, h2, r2⟩ := trodAll_cons r1
  obtain ⟨rfl, rfl, rfl⟩ := trodAll_nil r2
  obtain rfl : args = #[v0, v1, v2] := by cases args; simp_all
  obtain ⟨rfl, rfl⟩ := trodVars_none hV
  clear hA0 r0 r1 r2 hA
  obtain ⟨z0, rfl, rfl, rfl, w0⟩ := open_int Try.underlying3 (hval 0 3 v0 rfl rfl) h0
  have hlt1 : ∀ x ∈ p1, x.block < W.heap.size := fun x hx => hW'.lt x (by simp [hx])
  have hw1 : ∀ n ∈ d1.weights Try.prog 30, n ≤ reachBytes := fun n hn => by
    have := List.all_eq_true.1 hsz n (DataW.weights_mem_each (j := 1) (t := 30) (d := d1) (by rw [Try.params8]; rfl) rfl n hn)
    simpa using this
  obtain ⟨ao1, N1, cap1, os1, rfl, hl1, hnc1, hcm1, hok1, hnl1, hat1⟩ := open_rows 30 5 1 (fun u : UInt8 => [B u]) (fun _ => True) Try.underlying30 cells5 (by decide) (fun _ => rfl) (fun _ _ _ h _ => by obtain ⟨u, e⟩ := t_u8 Try.underlying5 h; exact ⟨u, e, trivial⟩) (hval 1 30 v1 rfl rfl) h1 hw1
  have hlt2 : ∀ x ∈ p2, x.block < W.heap.size := fun x hx => hW'.lt x (by simp [hx])
  have hw2 : ∀ n ∈ d2.weights Try.prog 51, n ≤ reachBytes := fun n hn => by
    have := List.all_eq_true.1 hsz n (DataW.weights_mem_each (j := 2) (t := 51) (d := d2) (by rw [Try.params8]; rfl) rfl n hn)
    simpa using this
  obtain ⟨ao2, N2, cap2, os2, rfl, hl2, hnc2, hcm2, hok2, hnl2, hat2⟩ := open_rows 51 58 5 OpV.row (OpV.okW W) Try.underlying51 cells58 (by decide) (fun _ => rfl) (fun _ _ _ h hw => t_op h hw) (hval 2 51 v2 rfl rfl) h2 hw2
  refine (images_of z0 (v := .slice ao2 N2 cap2) (os := os2) W (by_of hl1 hnl1 hat1) (scr_of hl2 hok2 hat2) (by have := rows_len Try.underlying51 bytes58 h2 hw2 rfl; unfold reachBytes at this; omega) (fun o ho => by have := (hok2 o ho).2.2; unfold reachBytes at this; omega) (fun o ho => (hok2 o ho).1.2) (ap_any _)).mono fun e W' ⟨he, hbl⟩ => ?_
  subst he
  exact ⟨_, rfl, _, _, _, [], _, [], hW', trodAll_cons_mk (shut_bool Try.underlying4 _) trodAll_mk0, trodAll_cons_mk (shut_int Try.underlying3 w0) (trodAll_cons_mk (Below.trod laidOut (by kernel_rfl) (of_decide_eq_true (by kernel_rfl)) h1 hbl hlt1) (trodAll_cons_mk (Below.trod laidOut (by kernel_rfl) (of_decide_eq_true (by kernel_rfl)) h2 hbl hlt2) trodAll_mk0)), rfl, hbl.frame _, fun h => by cases h⟩

set_option maxRecDepth 100000 in
theorem lifted (os : Os) (started : os.Started) (H : Type) (enc : TypeId × Value → H) :
    ReturnsInHanded {} Try.checked os 8 .any (Rows.diskImagesSpec.pre6 enc Try.prog Try.f8 Rows.diskImagesRow.domain false) (Rows.diskImagesSpec.post enc Try.prog Try.f8 false true false false) := by
  refine returnsInHanded_of_change_sized (C := Try.checked) (s := Rows.diskImagesSpec) own started (by kernel_rfl) Try.func8
    (ChangeSpec.witness6 (enc := enc) (C := Try.checked) (s := Rows.diskImagesSpec) false ⟨#[], #[.int .i64 0, .slice none 0 0, .slice none 0 0], []⟩ 8 (by kernel_rfl) (by kernel_rfl) (by kernel_rfl) (by kernel_rfl)) ?_
  intro W base args ds gs before hval hW _ hsz _
  exact contract H enc W base args ds gs before hval hW hsz

theorem said : Rows.DiskImagesSaid :=
  OpenClaim.holds_of_wide 8 Try.f8 rfl rfl rfl rfl rfl rfl rfl ⟨rfl, rfl, rfl, rfl, rfl⟩ rfl rfl rfl rfl rfl (by kernel_rfl) Try.func8 (by kernel_rfl)
    (of_decide_eq_true (by kernel_rfl)) (by unfold Func.isWrapper; first | (rw [if_pos (by decide +kernel)]; kernel_rfl) | (rw [if_neg (by decide +kernel)]; exact ⟨rfl, rfl⟩))
    (fun os started H enc _ => lifted os started H enc)
end Go.Proofs.Ytlajcaofpmjdlaa.diskImages

namespace Go.Proofs.Ytlajcaofpmjdlaa
theorem diskImages_said : Rows.DiskImagesSaid := diskImages.said
end Go.Proofs.Ytlajcaofpmjdlaa
