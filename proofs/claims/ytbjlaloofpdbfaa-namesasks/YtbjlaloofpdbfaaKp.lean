import Derived.Test.YtbjlaloofpdbfaaPk
namespace Go.Proofs.Ytbjlaloofpdbfaa
open Go.RowKit Go.PlainAid Go.MapKept
set_option linter.unusedVariables false
set_option linter.unusedSimpArgs false
set_option maxRecDepth 100000 in
set_option maxHeartbeats 1600000 in
theorem keep_any {hb mh mw : Nat} {me rep per : Int} {KN : List (List UInt8 × Int)} {WT : List ((Int × Int) × OpA)} (n : List UInt8) (ho : Int) (w : World) (hT : Tb hb mh mw me rep per KN WT w) (hn : ∀ p ∈ KN, n ≠ p.1) (hl : n.length ≤ 281474976710656) :
    Calls Try.prog 39 #[.pointer (some ⟨hb, 0, none⟩), .string ⟨n.toArray⟩, .int .i64 ho] w fun q w' => q = .returned (.tuple #[]) ∧ Tb hb mh mw me rep per (KN ++ [(n, ho)]) WT w' ∧ Chg (fun k => k = mh) w w' := by
  have HCL : Hid (∀ w, _) := fun w => clone_any n w hl
  have HT : Hid _ := hT
  have HN : Hid _ := hn
  clear hT hn
  go_enter Try.func39, Try.ntmps39
  go_wp2_with fail
  try rw [show ∀ a : Act, a.put none undef = a from fun _ => rfl]
  refine wp_region_mix (fun wq => Below w.heap.size w wq) (fun i => i == 5 || i == 7) 7 (by kernel_rfl) rfl (by kernel_rfl) (by kernel_rfl) (by kernel_rfl) ?_
  refine withFrP (N := 13) rfl ?_
  intro f0 F0 hff
  have e0 : f0 0 = Value.pointer (some ⟨hb, 0, none⟩) := hff 0
  have e1 : f0 1 = Value.string ⟨n.toArray⟩ := hff 1
  have e2 : f0 2 = Value.int .i64 ho := hff 2
  clear hff
  have HCC : (fun wq => Below w.heap.size w wq) (({ w with drawn := w.drawn + 1 } : World)) := (Below.drew (Below.refl w.heap.size w))
  have VH : ∀ wr, Below w.heap.size w wr → wr.cell? ⟨hb, 3, none⟩ = some (.map (some mh)) := fun wr hw => (hw.cell (p := ⟨hb, 3, none⟩) (World.block_lt_of_cell? w _ HT.out.c3)).trans HT.out.c3
  refine lyp F0 rfl HCC rfl (by omega) (wanted_none rfl) (v := Value.pointer (some ⟨hb, 0, none⟩)) (fun wr hwr => by simp only [execOp, (F0.eval 0 (by omega)).trans (show _ = Value.pointer (some ⟨hb, 0, none⟩) from by simp [upd, e0, e1, e2])]; first | rfl | simp [go_sem]) fun F1 => ?_
  refine lyp F1 rfl HCC rfl (by omega) (wanted_none rfl) (v := Value.pointer (some ⟨hb, 0, none⟩)) (fun wr hwr => by simp only [execOp, (F1.eval 6 (by omega)).trans (show _ = Value.pointer (some ⟨hb, 0, none⟩) from by simp [upd, e0, e1, e2])]; simp [go_sem]) fun F2 => ?_
  refine lyp F2 rfl HCC rfl (by omega) (wanted_none rfl) (v := Value.pointer (some ⟨hb, 3, none⟩)) (fun wr hwr => by simp only [execOp, (F2.eval 7 (by omega)).trans (show _ = Value.pointer (some ⟨hb, 0, none⟩) from by simp [upd, e0, e1, e2])]; simp [go_sem]) fun F3 => ?_
  refine lyp F3 rfl HCC rfl (by omega) (wanted_none rfl) (v := Value.map (some mh)) (fun wr hwr => by simp only [execOp, (F3.eval 8 (by omega)).trans (show _ = Value.pointer (some ⟨hb, 3, none⟩) from by simp [upd, e0, e1, e2])]; simp [go_sem, VH wr hwr]) fun F4 => ?_
  refine lyp F4 rfl HCC rfl (by omega) (wanted_none rfl) (v := Value.string ⟨n.toArray⟩) (fun wr hwr => by simp only [execOp, (F4.eval 1 (by omega)).trans (show _ = Value.string ⟨n.toArray⟩ from by simp [upd, e0, e1, e2])]; first | rfl | simp [go_sem]) fun F5 => ?_
  refine lcp F5 rfl HCC rfl (by omega) (wanted_none rfl) (g := 32) (args := #[Value.string ⟨n.toArray⟩]) (by simp only [execOp, resolve, invoke, List.map_toArray, List.map_cons, List.map_nil, (F5.eval 10 (by omega)).trans (show _ = Value.string ⟨n.toArray⟩ from by simp [upd, e0, e1, e2])]; simp [go_sem, Act.eval]) (HCL.out (({ w with drawn := w.drawn + 1 } : World))) ?_
  rintro e w2 ⟨rfl, hb2⟩
  refine ⟨_, rfl, fun F6 => ?_⟩
  have HC2 : (fun wq => Below w.heap.size w wq) w2 := (Below.drew (Below.refl w.heap.size w)).trans hb2
  have hT2 := HT.out.more HC2
  obtain ⟨w4, hrun, hm4, hc4, hs4⟩ := hT2.hm.put n ho HN.out
  replace hrun : (Instr.mapUpdate 69 (.map (some mh)) (.string ⟨n.toArray⟩) (.int .i64 ho)).run Try.prog w2 = .ok () w4 := hrun
  refine lyp F6 rfl HC2 rfl (by omega) (wanted_none rfl) (v := Value.int .i64 ho) (fun wr hwr => by simp only [execOp, (F6.eval 2 (by omega)).trans (show _ = Value.int .i64 ho from by simp [upd, e0, e1, e2])]; first | rfl | simp [go_sem]) fun F7 => ?_
  refine lst rfl HC2 rfl (wanted_none rfl) (w1 := w4) (by simp only [execOp, (F7.eval 9 (by omega)).trans (show _ = Value.map (some mh) from by simp [upd, e0, e1, e2]), (F7.eval 11 (by omega)).trans (show _ = Value.string ⟨n.toArray⟩ from by simp [upd, e0, e1, e2]), (F7.eval 12 (by omega)).trans (show _ = Value.int .i64 ho from by simp [upd, e0, e1, e2])]; simp [go_sem, hrun]) ?_
  refine ⟨fun h => by omega, ?_⟩
  clear F0 F1 F2 F3 F4 F5 F6 F7 e0 e1 e2 HCC VH
  simp only [Act.put, List.setIfInBounds_toArray, List.set_cons_succ, List.set_cons_zero]
  have hfin := hT2.putH hc4 hm4
  have hch : Chg (fun k => k = mh) w w4 := (Chg.ofBelow (fun k => k = mh) HC2).trans hc4 (fun _ _ e => e)
  have HFI : Hid _ := hfin
  have HCH : Hid _ := hch
  clear hfin hch hc4 hm4 hrun hs4 hT2 HC2 hb2 HT HCL HN
  go_wp2_with fail
  first | go_end0 | go_ret
  exact ⟨rfl, HFI.out, HCH.out⟩
def makeCode (me rep per : Int) (KN : List (List UInt8 × Int)) (n : List UInt8) : Int := if nameB n = false then 1 else if homeN n rep ≠ me then 3 else if knows n KN = true then 101 else if per ≤ (cntH me KN : Int) then 102 else 0
def makeNext (me rep per : Int) (KN : List (List UInt8 × Int)) (n : List UInt8) : List (List UInt8 × Int) := if makeCode me rep per KN n = 0 then KN ++ [(n, me)] else KN
def learnB (me rep per : Int) (KN : List (List UInt8 × Int)) (n : List UInt8) : Bool := nameB n && !decide (homeN n rep = me) && !knows n KN && decide ((cntH (homeN n rep) KN : Int) < per)
def learnNext (me rep per : Int) (KN : List (List UInt8 × Int)) (n : List UInt8) : List (List UInt8 × Int) := if learnB me rep per KN n = true then KN ++ [(n, homeN n rep)] else KN
theorem not_known {n : List UInt8} {KN : List (List UInt8 × Int)} (h : knows n KN = false) : ∀ p ∈ KN, n ≠ p.1 := by
  unfold knows look at h
  intro p hp e
  have h2 : KN.find? (fun p => decide (n = p.1)) = none := by
    cases hf : KN.find? (fun p => decide (n = p.1)) with
    | none => rfl
    | some x => rw [hf] at h; cases h
  have := List.find?_eq_none.1 h2 p hp
  simp [e] at this
end Go.Proofs.Ytbjlaloofpdbfaa
