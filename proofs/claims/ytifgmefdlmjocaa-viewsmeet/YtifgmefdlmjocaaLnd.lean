import Derived.Test.YtifgmefdlmjocaaJoinF
import Derived.Test.YtifgmefdlmjocaaAl
import Derived.Test.YtifgmefdlmjocaaSme
namespace Go.Proofs.Ytifgmefdlmjocaa
open Go.RowKit Go.PlainAid Go.MapKept
set_option linter.unusedVariables false
set_option linter.unusedSimpArgs false
def oneE : Ent := ⟨0, [111, 110, 101], 0, 0, -7, 0, 0, 0⟩
def twoE : Ent := ⟨0, [116, 119, 111], 0, 0, -8, 0, 0, 0⟩
theorem one_flat2 : ∀ u ∈ flatV [oneE, twoE], u.oneCell' = true := by
  have h9 : (flatV [oneE, twoE]).all (·.oneCell') = true := by simp [flatV, Ent.cs, oneE, twoE, Value.oneCell']
  exact fun u hu => List.all_eq_true.1 h9 u hu
set_option maxRecDepth 100000 in
set_option maxHeartbeats 3200000 in
theorem lend_any (la : Option Addr) (KK lcap : Nat) (es : List Ent) (w : World) (hl : es.length = KK) (hK : (KK + 2) * 64 ≤ 140737488355328) (hf : FromV w la es) :
    Calls Try.prog 68 #[.slice la KK lcap] w fun e w' => ∃ u, e = .returned u ∧ w'.ownsRow w.heap.size 46 7 u (KK + 2) (flatV (es ++ [oneE, twoE])) ∧ Below w.heap.size w w' := by
  have HL : Hid (es.length = KK) := hl
  have HF : Hid (FromV w la es) := hf
  clear hl hf
  go_enter Try.func68, Try.ntmps68
  go_wp2_with fail
  go_loopw [3, 4] (fun o i wr => ∃ (q : Nat) (u : Value), u = o ∧ q ≤ KK ∧ i = .int .i64 q ∧ wr.ownsRow w.heap.size 46 7 u q (flatV (es.take q)) ∧ Below w.heap.size w wr) (fun _ i _ => KK - (intOf i).toNat)
  case atStart => exact ⟨0, _, rfl, Nat.zero_le _, rfl, World.ownsRow_nil _ _ _ _, Below.refl _ _⟩
  case round =>
    obtain ⟨q, u, rfl, hq, rfl, hrow, hbel⟩ := hrel
    obtain ⟨oa, oc, huu, hq8⟩ := own_slice hrow
    subst huu
    by_cases hlt : q < KK
    · obtain ⟨e, he⟩ : ∃ e, es[q]? = some e := ⟨es[q]'(by rw [HL.out]; exact hlt), List.getElem?_eq_getElem _⟩
      obtain ⟨b, off, hla, hc⟩ := HF.out (by rw [HL.out]; omega)
      subst hla
      have hbs : b < w.heap.size := (hc q e he).lt
      obtain ⟨d0, d1, d2, d3, d4, d5, d6⟩ := (hc q e he).keep (hbel.block b hbs)
      obtain ⟨v5, w5, hrun, ho5, hg5⟩ := app_one 31 46 (viewV zed) 7 64 Try.underlying31 sizeV rfl (by decide) (by decide) hrow #[.string ⟨e.n.toArray⟩, .int .i64 e.c, .int .i64 e.rc, .int .i64 e.v, .int .i64 e.d, .int .i64 e.u, .int .i64 e.h] rfl (fun u hu => by simp at hu; rcases hu with rfl | rfl | rfl | rfl | rfl | rfl | rfl <;> rfl) (by omega) hbel.size
      have HO5 : Hid (World.ownsRow w5 w.heap.size 46 7 v5 (q + 1) (flatV (es.take (q + 1)))) := show World.ownsRow w5 w.heap.size 46 7 v5 (q + 1) (flatV (es.take (q + 1))) from by rw [take_snoc he, flatV_append, show flatV [e] = e.cs from by simp [flatV]]; exact ho5
      have HB5 : Hid (Below w.heap.size w w5) := hbel.trans (hg5.below (fun j hj => (ownsRow_lt hrow hj).1) hbel.size)
      have HR5 : Hid _ := hrun
      clear he hc hbs hrun ho5 hg5 hrow hbel hq8
      go_wp2_with (at_builtin; refine wpList_runs rfl _ _ 31 rfl rfl rfl HR5.out ?_)
      go_roundw
      case rel => exact ⟨q + 1, _, rfl, by omega, by go_num, HO5.out, HB5.out⟩
      case measure => simp [intOf]; omega
    · obtain rfl : q = KK := by omega
      rw [List.take_of_length_le (by rw [HL.out]; omega)] at hrow
      obtain ⟨w3, hw3⟩ : ∃ w3, w3 = wr.alloc (.cells #[.string ⟨#[111, 110, 101]⟩, .int .i64 0, .int .i64 0, .int .i64 (-7), .int .i64 0, .int .i64 0, .int .i64 0, .string ⟨#[116, 119, 111]⟩, .int .i64 0, .int .i64 0, .int .i64 (-8), .int .i64 0, .int .i64 0, .int .i64 0] 46) := ⟨_, rfl⟩
      have hB : Blk w3 wr.heap.size #[.string ⟨#[111, 110, 101]⟩, .int .i64 0, .int .i64 0, .int .i64 (-7), .int .i64 0, .int .i64 0, .int .i64 0, .string ⟨#[116, 119, 111]⟩, .int .i64 0, .int .i64 0, .int .i64 (-8), .int .i64 0, .int .i64 0, .int .i64 0] 46 := by rw [hw3]; exact heap_alloc_new wr _
      have hr3 : World.ownsRow w3 w.heap.size 46 7 (.slice oa q oc) q (flatV es) := by rw [hw3]; exact hrow.alloc _
      obtain ⟨v5, w5, hrun, ho5, hg5⟩ := app_rows 31 46 (viewV zed) 7 64 Try.underlying31 sizeV rfl (by decide) (by decide) hr3 (ao := some ⟨wr.heap.size, 0, none⟩) (m := 2) (cap := 2) (ys := flatV [oneE, twoE]) rfl (fun h => by cases h) (fun ad had j u hu => by
        cases had
        rw [addr_add, Nat.zero_add, hB.cell j]
        simpa [flatV, Ent.cs, oneE, twoE] using hu) one_flat2 (by omega) (by rw [hw3, World.size_alloc]; have := hbel.size; omega)
      have HO5 : Hid (World.ownsRow w5 w.heap.size 46 7 v5 (q + 2) (flatV (es ++ [oneE, twoE]))) := show World.ownsRow w5 w.heap.size 46 7 v5 (q + 2) (flatV (es ++ [oneE, twoE])) from by rw [flatV_append]; exact ho5
      have hb3 : Below w.heap.size w w3 := by rw [hw3]; exact hbel.alloc hbel.size _
      have HB5 : Hid (Below w.heap.size w w5) := hb3.trans (hg5.below (fun j hj => (ownsRow_lt hr3 hj).1) hb3.size)
      rw [hw3] at hrun
      have HR5 : Hid _ := hrun
      clear hB hr3 hrun ho5 hg5 hb3 hrow hbel hq8 hw3
      go_wp2_with (at_builtin; refine wpList_runs rfl _ _ 31 rfl rfl rfl HR5.out ?_)
      go_ret
      exact ⟨_, rfl, HO5.out, HB5.out⟩
theorem sameV_self (e : Ent) : sameV e e = true := by simp [sameV]
set_option maxRecDepth 100000 in
set_option maxHeartbeats 3200000 in
theorem all_yes (aa ab : Option Addr) (KK ca cb : Nat) (es : List Ent) (w : World) (hl : es.length = KK) (hK : KK ≤ maxLen) (hfa : FromV w aa es) (hfb : FromV w ab es) :
    Calls Try.prog 47 #[.slice aa KK ca, .slice ab KK cb] w fun e w' => e = .returned (.bool true) ∧ Below w.heap.size w w' := by
  have hmax : KK ≤ 9223372036854775807 := by unfold maxLen at hK; omega
  have HL : Hid (es.length = KK) := hl
  have HFA : Hid (FromV w aa es) := hfa
  have HFB : Hid (FromV w ab es) := hfb
  clear hl hfa hfb hK
  go_enter Try.func47, Try.ntmps47
  go_wp2_with fail
  go_loopw [5] (fun i wr => ∃ (q : Nat), q ≤ KK ∧ i = .int .i64 q ∧ Below w.heap.size w wr) (fun i _ => KK - (intOf i).toNat)
  case atStart => exact ⟨0, Nat.zero_le _, rfl, Below.refl _ _⟩
  case round =>
    obtain ⟨q, hq, rfl, hbel⟩ := hrel
    have HB : Hid (Below w.heap.size w wr) := hbel
    by_cases hlt : q < KK
    · obtain ⟨e, he⟩ : ∃ e, es[q]? = some e := ⟨es[q]'(by rw [HL.out]; exact hlt), List.getElem?_eq_getElem _⟩
      obtain ⟨ba, oa, haa, hca⟩ := HFA.out (by rw [HL.out]; omega)
      obtain ⟨bb, ob, hab, hcb⟩ := HFB.out (by rw [HL.out]; omega)
      subst haa
      subst hab
      have HVA : Hid (VAt wr ba (oa + q * 7) e) := (hca q e he).keep (hbel.block ba (hca q e he).lt)
      have HVB : Hid (VAt wr bb (ob + q * 7) e) := (hcb q e he).keep (hbel.block bb (hcb q e he).lt)
      have HSM : Hid (∀ W, Calls Try.prog 24 #[viewV e, viewV e] W fun r w' => r = .returned (.bool true) ∧ Below W.heap.size W w') := fun W => by have := same_any e e W; rwa [sameV_self] at this
      unfold viewV at HSM
      clear hca hcb he hbel
      go_wp2_with fail
      rename_i K hK
      try rw [show ∀ a : Act, a.put none undef = a from fun _ => rfl]
      refine wp_region_mix (fun wq => VAt wq ba (oa + q * 7) e ∧ VAt wq bb (ob + q * 7) e) (fun i => i == 8 || i == 99) 99 (by kernel_rfl) rfl (by kernel_rfl) (by kernel_rfl) (by kernel_rfl) ?_
      refine withFrP (N := 27) rfl ?_
      intro f0 F0 hff
      have ee0 : f0 0 = Value.slice (some ⟨ba, oa, none⟩) KK ca := hff 0
      have ee1 : f0 1 = Value.slice (some ⟨bb, ob, none⟩) KK cb := hff 1
      have ee5 : f0 5 = Value.int .i64 ((q : Nat) : Int) := hff 5
      clear hff
      have HCC : (fun wq => VAt wq ba (oa + q * 7) e ∧ VAt wq bb (ob + q * 7) e) (({ wr with drawn := wr.drawn + 1 } : World)) := ⟨HVA.out.keep rfl, HVB.out.keep rfl⟩
      refine lyp F0 rfl HCC rfl (by omega) (wanted_none rfl) (v := Value.slice (some ⟨ba, oa, none⟩) KK ca) (fun wr hwr => by simp only [execOp, (F0.eval 0 (by omega)).trans (show _ = Value.slice (some ⟨ba, oa, none⟩) KK ca from by simp [upd, ee0, ee1, ee5])]; first | rfl | simp [go_sem]) fun F1 => ?_
      refine lyp F1 rfl HCC rfl (by omega) (wanted_none rfl) (v := Value.int .i64 ((q : Nat) : Int)) (fun wr hwr => by simp only [execOp, (F1.eval 5 (by omega)).trans (show _ = Value.int .i64 ((q : Nat) : Int) from by simp [upd, ee0, ee1, ee5])]; first | rfl | simp [go_sem]) fun F2 => ?_
      refine lyp F2 rfl HCC rfl (by omega) (wanted_none rfl) (v := Value.pointer (some ⟨ba, oa + q * 7, none⟩)) (fun wr hwr => by simp only [execOp, (F2.eval 17 (by omega)).trans (show _ = Value.slice (some ⟨ba, oa, none⟩) KK ca from by simp [upd, ee0, ee1, ee5]), (F2.eval 18 (by omega)).trans (show _ = Value.int .i64 ((q : Nat) : Int) from by simp [upd, ee0, ee1, ee5])]; simp only [Sem.run_bind, Sem.run_pure, Result.andThen_ok, idx_run 31 46 7 Try.underlying31 info46 wr ba oa KK ca q hlt]; try rfl) fun F3 => ?_
      refine lyp F3 rfl HCC rfl (by omega) (wanted_none rfl) (v := Value.agg #[.string ⟨e.n.toArray⟩, .int .i64 e.c, .int .i64 e.rc, .int .i64 e.v, .int .i64 e.d, .int .i64 e.u, .int .i64 e.h]) (fun wr hwr => by simp only [execOp, (F3.eval 19 (by omega)).trans (show _ = Value.pointer (some ⟨ba, oa + q * 7, none⟩) from by simp [upd, ee0, ee1, ee5])]; simp [go_sem, hwr.1.c0, hwr.1.c1, hwr.1.c2, hwr.1.c3, hwr.1.c4, hwr.1.c5, hwr.1.c6]) fun F4 => ?_
      refine lyp F4 rfl HCC rfl (by omega) (wanted_none rfl) (v := Value.slice (some ⟨bb, ob, none⟩) KK cb) (fun wr hwr => by simp only [execOp, (F4.eval 1 (by omega)).trans (show _ = Value.slice (some ⟨bb, ob, none⟩) KK cb from by simp [upd, ee0, ee1, ee5])]; first | rfl | simp [go_sem]) fun F5 => ?_
      refine lyp F5 rfl HCC rfl (by omega) (wanted_none rfl) (v := Value.int .i64 ((q : Nat) : Int)) (fun wr hwr => by simp only [execOp, (F5.eval 5 (by omega)).trans (show _ = Value.int .i64 ((q : Nat) : Int) from by simp [upd, ee0, ee1, ee5])]; first | rfl | simp [go_sem]) fun F6 => ?_
      refine lyp F6 rfl HCC rfl (by omega) (wanted_none rfl) (v := Value.pointer (some ⟨bb, ob + q * 7, none⟩)) (fun wr hwr => by simp only [execOp, (F6.eval 21 (by omega)).trans (show _ = Value.slice (some ⟨bb, ob, none⟩) KK cb from by simp [upd, ee0, ee1, ee5]), (F6.eval 22 (by omega)).trans (show _ = Value.int .i64 ((q : Nat) : Int) from by simp [upd, ee0, ee1, ee5])]; simp only [Sem.run_bind, Sem.run_pure, Result.andThen_ok, idx_run 31 46 7 Try.underlying31 info46 wr bb ob KK cb q hlt]; try rfl) fun F7 => ?_
      refine lyp F7 rfl HCC rfl (by omega) (wanted_none rfl) (v := Value.agg #[.string ⟨e.n.toArray⟩, .int .i64 e.c, .int .i64 e.rc, .int .i64 e.v, .int .i64 e.d, .int .i64 e.u, .int .i64 e.h]) (fun wr hwr => by simp only [execOp, (F7.eval 23 (by omega)).trans (show _ = Value.pointer (some ⟨bb, ob + q * 7, none⟩) from by simp [upd, ee0, ee1, ee5])]; simp [go_sem, hwr.2.c0, hwr.2.c1, hwr.2.c2, hwr.2.c3, hwr.2.c4, hwr.2.c5, hwr.2.c6]) fun F8 => ?_
      refine lcp F8 rfl HCC rfl (by omega) (wanted_none rfl) (g := 24) (args := #[Value.agg #[.string ⟨e.n.toArray⟩, .int .i64 e.c, .int .i64 e.rc, .int .i64 e.v, .int .i64 e.d, .int .i64 e.u, .int .i64 e.h], Value.agg #[.string ⟨e.n.toArray⟩, .int .i64 e.c, .int .i64 e.rc, .int .i64 e.v, .int .i64 e.d, .int .i64 e.u, .int .i64 e.h]]) (by simp only [execOp, resolve, invoke, List.map_toArray, List.map_cons, List.map_nil, (F8.eval 20 (by omega)).trans (show _ = Value.agg #[.string ⟨e.n.toArray⟩, .int .i64 e.c, .int .i64 e.rc, .int .i64 e.v, .int .i64 e.d, .int .i64 e.u, .int .i64 e.h] from by simp [upd, ee0, ee1, ee5]), (F8.eval 24 (by omega)).trans (show _ = Value.agg #[.string ⟨e.n.toArray⟩, .int .i64 e.c, .int .i64 e.rc, .int .i64 e.v, .int .i64 e.d, .int .i64 e.u, .int .i64 e.h] from by simp [upd, ee0, ee1, ee5])]; simp [go_sem, Act.eval]) (HSM.out (({ wr with drawn := wr.drawn + 1 } : World))) ?_
      rintro e9 Y ⟨rfl, hbY⟩
      refine ⟨_, rfl, fun F9 => ?_⟩
      have HC2 : (fun wq => VAt wq ba (oa + q * 7) e ∧ VAt wq bb (ob + q * 7) e) Y := ⟨HCC.1.keep (hbY.block _ HCC.1.lt), HCC.2.keep (hbY.block _ HCC.2.lt)⟩
      refine lyp F9 rfl HC2 rfl (by omega) (wanted_none rfl) (v := Value.bool false) (fun wr hwr => by simp only [execOp, (F9.eval 25 (by omega)).trans (show _ = Value.bool true from by simp [upd, ee0, ee1, ee5])]; simp [go_sem, Act.eval]) fun F10 => ?_
      refine ⟨fun _ => HC2, ?_⟩
      refine hK _ _ ?_
      clear F0 F1 F2 F3 F4 F5 F6 F7 F8 F9 F10 ee0 ee1 ee5 HCC HC2
      simp only [Act.put, List.setIfInBounds_toArray, List.set_cons_succ, List.set_cons_zero]
      have HB2 : Hid (Below w.heap.size w Y) := HB.out.trans ((show Below wr.heap.size wr Y from (Below.drew (Below.refl _ _)).trans hbY).mono HB.out.size)
      clear hbY HVA HVB HSM
      go_wp2_with fail
      go_roundw
      case rel => exact ⟨q + 1, by omega, by go_num, HB2.out⟩
      case measure => simp [intOf]; omega
    · clear hbel
      go_wp2_with fail
      go_ret
      exact ⟨rfl, HB.out⟩
end Go.Proofs.Ytifgmefdlmjocaa
