import Derived.Test.YtmnihombiabkgaaGrw
namespace Go.Proofs.Ytmnihombiabkgaa
open Go.RowKit Go.PlainAid Go.MapKept
set_option linter.unusedVariables false
set_option linter.unusedSimpArgs false
/-- The timers by their due, then by their numbers. -/
def Srtd (S A : List Tm) : Prop := S.Perm A ∧ S.Pairwise (fun a b => ltC b a = false)
theorem srtd_one {S S' A : List Tm} (hu : Up A) (h : Srtd S A) (h' : Srtd S' A) : S = S' := by
  refine List.Perm.eq_of_pairwise (le := fun a b => ltC b a = false) (fun a b ha hb h1 h2 => ?_) h.2 h'.2 (h.1.trans h'.1.symm)
  rw [ltC_no] at h1 h2
  exact up_inj hu (h.1.mem_iff.1 ha) (h'.1.mem_iff.1 hb) (by omega)
set_option maxRecDepth 100000 in
set_option maxHeartbeats 1600000 in
theorem list_any {base whb mp : Nat} {u now last : Int} {vs : List Value} {A : List Tm} {M : List (Int × Int)} (w : World) (h : WL base whb mp u vs now last A M w) (hu : 1 ≤ u ∧ u ≤ 64) (hA : A.length ≤ 100000) :
    Calls Try.prog 16 #[.pointer (some ⟨whb, 0, none⟩)] w fun e w' => ∃ v S, e = .returned v ∧ Srtd S A ∧ w'.ownsRow w.heap.size 50 4 v S.length (flatT S) ∧ Below w.heap.size w w' := by
  obtain ⟨n, hn⟩ : ∃ n : Nat, u = (n : Int) := ⟨u.toNat, by omega⟩
  have hn64 : n ≤ 64 := by omega
  have c64 := h.c64
  have HCE : Hid (∀ i, i < n → ∃ v, w.cell? ⟨whb, i, none⟩ = some v ∧ w.ownsRow base 50 4 v (slotOf u A i).length (flatT (slotOf u A i))) := fun i hi => by
    obtain ⟨v, hv⟩ := h.get (show i < 64 by omega)
    exact ⟨v, (h.cs (by omega)).trans hv, h.r i v hv⟩
  have HPM : Hid ((catT u A n).Perm A) := cat_all hn (by omega) A
  have hcl : (catT u A n).length = A.length := HPM.out.length_eq
  rw [hn] at c64
  clear h hu hn
  go_enter Try.func16, Try.ntmps16
  go_wp2_with fail
  rename_i K hK
  try rw [show ∀ a : Act, a.put none undef = a from fun _ => rfl]
  refine wp_region_mix (fun wz => wz.cell? ⟨whb, 64, none⟩ = some (.int .i64 ((n : Nat) : Int))) (fun i => i == 8 || i == 99) 99 (by kernel_rfl) rfl (by kernel_rfl) (by kernel_rfl) (by kernel_rfl) ?_
  refine withFrP (N := 16) rfl ?_
  intro f0 F0 hff
  have e0 : f0 0 = Value.pointer (some ⟨whb, 0, none⟩) := hff 0
  clear hff
  have HCC : (fun wz => wz.cell? ⟨whb, 64, none⟩ = some (.int .i64 ((n : Nat) : Int))) (({ w with drawn := w.drawn + 1 } : World)) := c64
  have HCN : Hid _ := concat_any (base := base) (whb := whb) (n := n) (u := u) (A := A) ({ w with drawn := w.drawn + 1 } : World) hn64 (by omega) (fun i hi => HCE.out i hi)
  refine lyp F0 rfl HCC rfl (by omega) (wanted_none rfl) (v := Value.pointer (some ⟨whb, 0, none⟩)) (fun wr hwr => by simp only [execOp, (F0.eval 0 (by omega)).trans (show _ = Value.pointer (some ⟨whb, 0, none⟩) from by simp [upd, e0])]; first | rfl | simp [go_sem]) fun Fp1 => ?_
  refine lyp Fp1 rfl HCC rfl (by omega) (wanted_none rfl) (v := Value.pointer (some ⟨whb, 0, none⟩)) (fun wr hwr => by simp only [execOp, (Fp1.eval 4 (by omega)).trans (show _ = Value.pointer (some ⟨whb, 0, none⟩) from by simp [upd, e0])]; simp [go_sem]) fun Fp2 => ?_
  refine lyp Fp2 rfl HCC rfl (by omega) (wanted_none rfl) (v := Value.pointer (some ⟨whb, 0, none⟩)) (fun wr hwr => by simp only [execOp, (Fp2.eval 5 (by omega)).trans (show _ = Value.pointer (some ⟨whb, 0, none⟩) from by simp [upd, e0])]; simp [go_sem]) fun Fp3 => ?_
  refine lyp Fp3 rfl HCC rfl (by omega) (wanted_none rfl) (v := Value.pointer (some ⟨whb, 0, none⟩)) (fun wr hwr => by simp only [execOp, (Fp3.eval 0 (by omega)).trans (show _ = Value.pointer (some ⟨whb, 0, none⟩) from by simp [upd, e0])]; first | rfl | simp [go_sem]) fun Fp4 => ?_
  refine lyp Fp4 rfl HCC rfl (by omega) (wanted_none rfl) (v := Value.pointer (some ⟨whb, 0, none⟩)) (fun wr hwr => by simp only [execOp, (Fp4.eval 7 (by omega)).trans (show _ = Value.pointer (some ⟨whb, 0, none⟩) from by simp [upd, e0])]; simp [go_sem]) fun Fp5 => ?_
  refine lyp Fp5 rfl HCC rfl (by omega) (wanted_none rfl) (v := Value.pointer (some ⟨whb, 64, none⟩)) (fun wr hwr => by simp only [execOp, (Fp5.eval 8 (by omega)).trans (show _ = Value.pointer (some ⟨whb, 0, none⟩) from by simp [upd, e0])]; simp [go_sem]) fun Fp6 => ?_
  refine lyp Fp6 rfl HCC rfl (by omega) (wanted_none rfl) (v := Value.int .i64 ((n : Nat) : Int)) (fun wr hwr => by simp only [execOp, (Fp6.eval 9 (by omega)).trans (show _ = Value.pointer (some ⟨whb, 64, none⟩) from by simp [upd, e0])]; simp [go_sem, hwr]) fun Fp7 => ?_
  refine lyp Fp7 rfl HCC rfl (by omega) (wanted_none rfl) (v := Value.slice (some ⟨whb, 0, none⟩) n 64) (fun wr hwr => by simp only [execOp, Option.map_some, Option.map_none, (Fp7.eval 6 (by omega)).trans (show _ = Value.pointer (some ⟨whb, 0, none⟩) from by simp [upd, e0]), (Fp7.eval 10 (by omega)).trans (show _ = Value.int .i64 ((n : Nat) : Int) from by simp [upd, e0])]; simp only [Sem.run_bind, Sem.run_pure, Result.andThen_ok, slice_arr wr whb n hn64]; try rfl) fun Fp8 => ?_
  refine lcp Fp8 rfl HCC rfl (by omega) (wanted_none rfl) (g := 24) (args := #[Value.slice (some ⟨whb, 0, none⟩) n 64]) (by simp only [execOp, resolve, invoke, List.map_toArray, List.map_cons, List.map_nil, (Fp8.eval 11 (by omega)).trans (show _ = Value.slice (some ⟨whb, 0, none⟩) n 64 from by simp [upd, e0])]; simp [go_sem, Act.eval]) HCN.out ?_
  rintro e w4 ⟨v4, rfl, hr4, hb4⟩
  obtain ⟨ao, cap, hv4, hcp4⟩ := own_slice hr4
  subst hv4
  have HR4 : Hid _ := hr4
  clear hr4 hcp4
  refine ⟨_, rfl, fun Fp9 => ?_⟩
  have HB4 : Hid (Below w.heap.size w w4) := show Below w.heap.size w w4 from (Below.drew (Below.refl w.heap.size w)).trans hb4
  have HC6 : (fun wz => wz.cell? ⟨whb, 64, none⟩ = some (.int .i64 ((n : Nat) : Int))) w4 := (HB4.out.cell (p := ⟨whb, 64, none⟩) (World.block_lt_of_cell? w _ c64)).trans c64
  clear hb4
  refine lyp Fp9 rfl HC6 rfl (by omega) (wanted_none rfl) (v := Value.slice ao (catT u A n).length cap) (fun wr hwr => by simp only [execOp, (Fp9.eval 12 (by omega)).trans (show _ = Value.slice ao (catT u A n).length cap from by simp [upd, e0])]; first | rfl | simp [go_sem]) fun Fp10 => ?_
  refine ⟨fun _ => HC6, ?_⟩
  refine hK _ _ ?_
  clear F0 Fp1 Fp2 Fp3 Fp4 Fp5 Fp6 Fp7 Fp8 Fp9 Fp10 e0 HCC HC6 HCN
  simp only [Act.put, List.setIfInBounds_toArray, List.set_cons_succ, List.set_cons_zero]
  clear c64 HCE
  by_cases h0 : A = []
  · have hc0 : catT u A n = [] := List.eq_nil_of_length_eq_zero (by rw [hcl, h0]; rfl)
    have HR5 : Hid (w4.ownsRow w.heap.size 50 4 (.slice ao 0 cap) ([] : List Tm).length (flatT [])) := show World.ownsRow _ _ _ _ _ _ _ from by
      have := HR4.out
      rw [hc0] at this
      exact this
    have HS5 : Hid (Srtd [] A) := show Srtd [] A from by rw [h0]; exact ⟨List.Perm.refl _, List.Pairwise.nil⟩
    rw [hc0]
    simp only [List.length_nil]
    clear HR4 hc0 hcl h0 HPM
    go_wp2_with fail
    refine Calls.mono (sort_none ao cap _ _) ?_
    rintro e w5 ⟨rfl, hw5⟩
    replace hw5 := hw5.symm
    subst hw5
    go_wp2_with fail
    go_ret
    exact ⟨_, [], rfl, HS5.out, HR5.out, HB4.out⟩
  · have hlp : 0 < (catT u A n).length := by
      rw [hcl]
      exact List.length_pos_iff.2 h0
    obtain ⟨g, c, hv, _, _, _⟩ := own_some HR4.out hlp
    simp only [Value.slice.injEq] at hv
    obtain ⟨rfl, _, rfl⟩ := hv
    have HST : Hid _ := sortC_any (es := catT u A n) rfl (by rw [hcl]; exact hA) HR4.out
    have HGE : Hid (w.heap.size ≤ g) := (ownsRow_lt HR4.out rfl).1
    generalize (catT u A n).length = cl at *
    clear HR4 hcl h0 hlp
    go_wp2_with fail
    refine Calls.mono HST.out ?_
    rintro e w5 ⟨rfl, ds, hp, hs, ho, hc⟩
    have hdl : ds.length = cl := by
      have := ho.1
      rw [flatT_len] at this
      omega
    have HB5 : Hid (Below w.heap.size w w5) := show Below w.heap.size w w5 from HB4.out.trans (hc.below HB4.out.size (fun k hk => by rw [hk]; exact HGE.out))
    have HS5 : Hid (Srtd ds A) := ⟨hp.trans HPM.out, hs⟩
    have HO5 : Hid (w5.ownsRow w.heap.size 50 4 (.slice (some ⟨g, 0, none⟩) cl cap) ds.length (flatT ds)) := show World.ownsRow _ _ _ _ _ _ _ from by rw [hdl]; exact ho
    clear hp hs ho hc HST hdl
    go_wp2_with fail
    go_ret
    exact ⟨_, ds, rfl, HS5.out, HO5.out, HB5.out⟩
end Go.Proofs.Ytmnihombiabkgaa
