import Derived.Test.YtaiknlnjahjeiaaMp0
import Derived.Deep.Cut
namespace Go.Proofs.Ytaiknlnjahjeiaa
open Go.RowKit Go.PlainAid Go.MapKept
set_option linter.unusedVariables false
set_option linter.unusedSimpArgs false
set_option maxRecDepth 100000 in
set_option maxHeartbeats 6400000 in
theorem plan_any {ab mb : Nat} {L : List (List UInt8 × Ct)} (k A B q : Int) (n : List UInt8) (w : World) (h : AM ab mb L w) (hn : n.length ≤ 140737488355328) :
    Calls Try.prog 22 #[.pointer (some ⟨ab, 0, none⟩), .agg #[.int .i64 k, .string ⟨n.toArray⟩, .int .i64 A, .int .i64 B], .int .i64 q] w (PlPost (hbOf k n L) n (mapO k A B q n L) w) := by
  obtain ⟨ob, hob⟩ : ∃ b, b = w.heap.size := ⟨_, rfl⟩
  obtain ⟨rb, hrb⟩ : ∃ b, b = w.heap.size + 1 := ⟨_, rfl⟩
  obtain ⟨X, hX⟩ : ∃ X, X = ((w.alloc (.cells #[.int .i64 k, .string ⟨n.toArray⟩, .int .i64 A, .int .i64 B] 31)).alloc (.cells #[.int .i64 0, .int .i64 0, .nilFunc] 62)) := ⟨_, rfl⟩
  have hbX : Below w.heap.size w X := by rw [hX]; exact (((Below.refl _ _).alloc (by first | exact Nat.le_refl _ | (simp; try omega)) _).alloc (by first | exact Nat.le_refl _ | (simp; try omega)) _)
  have Bob : Hid (Blk X ob #[.int .i64 k, .string ⟨n.toArray⟩, .int .i64 A, .int .i64 B] 31) := show Blk X ob #[.int .i64 k, .string ⟨n.toArray⟩, .int .i64 A, .int .i64 B] 31 from by rw [hX]; exact (blk_alloc (show Blk (w.alloc (.cells #[.int .i64 k, .string ⟨n.toArray⟩, .int .i64 A, .int .i64 B] 31)) ob #[.int .i64 k, .string ⟨n.toArray⟩, .int .i64 A, .int .i64 B] 31 from by rw [hob]; have h := heap_alloc_new w (.cells #[.int .i64 k, .string ⟨n.toArray⟩, .int .i64 A, .int .i64 B] 31); exact h) _)
  have HLob : Hid (w.heap.size ≤ ob) := show w.heap.size ≤ ob from by omega
  have Brb : Hid (Blk X rb #[.int .i64 0, .int .i64 0, .nilFunc] 62) := show Blk X rb #[.int .i64 0, .int .i64 0, .nilFunc] 62 from by rw [hX]; exact (show Blk ((w.alloc (.cells #[.int .i64 k, .string ⟨n.toArray⟩, .int .i64 A, .int .i64 B] 31)).alloc (.cells #[.int .i64 0, .int .i64 0, .nilFunc] 62)) rb #[.int .i64 0, .int .i64 0, .nilFunc] 62 from by rw [hrb]; have h := heap_alloc_new (w.alloc (.cells #[.int .i64 k, .string ⟨n.toArray⟩, .int .i64 A, .int .i64 B] 31)) (.cells #[.int .i64 0, .int .i64 0, .nilFunc] 62); simp only [World.size_alloc] at h; exact h)
  have HLrb : Hid (w.heap.size ≤ rb) := show w.heap.size ≤ rb from by omega
  have HBX : Hid (Below w.heap.size w X) := hbX
  have HLB : Hid (w.heap.size ≤ ob ∧ w.heap.size ≤ rb) := ⟨by omega, by omega⟩
  clear hbX
  have HRI : Hid _ := right_any k A B n X hn
  have HAM0 : Hid (AM ab mb L X) := h.more HBX.out
  obtain ⟨G, hG⟩ : ∃ G, G = (nameB n && opB k A B) := ⟨_, rfl⟩
  rw [← hG] at HRI
  cases G
  · have HO : Hid (mapO k A B q n L = ((0, 1), (0, 0, 0, []))) := show _ = _ from by unfold mapO; rw [if_pos hG.symm]
    clear h hn hG
    go_enter Try.func22, Try.ntmps22
    go_upto_region 1 with fail
    rw [← hX, ← hrb, ← hob]
    clear hX hob hrb
    have o0 : X.cell? ⟨ob, 0, none⟩ = some (.int .i64 k) := Bob.out.cell 0
    have o1 : X.cell? ⟨ob, 1, none⟩ = some (.string ⟨n.toArray⟩) := Bob.out.cell 1
    have o2 : X.cell? ⟨ob, 2, none⟩ = some (.int .i64 A) := Bob.out.cell 2
    have o3 : X.cell? ⟨ob, 3, none⟩ = some (.int .i64 B) := Bob.out.cell 3
    go_wp2_with fail
    refine Calls.mono HRI.out ?_
    rintro e9 w9 ⟨rfl, hb9⟩
    have hR9 : Hid (Blk w9 rb #[.int .i64 0, .int .i64 0, .nilFunc] 62) := Brb.out.below hb9 Brb.out.lt
    have HW9 : Hid (Below w.heap.size w w9) := HBX.out.trans (hb9.mono HBX.out.size)
    clear hb9
    go_wp2_with fail
    refine Calls.mono (refused_any 1 w9) ?_
    rintro e9 w1 ⟨rfl, hb1⟩
    have hR1 : Blk w1 rb #[.int .i64 0, .int .i64 0, .nilFunc] 62 := hR9.out.below hb1 hR9.out.lt
    have r0 : w1.cell? ⟨rb, 0, none⟩ = some (.int .i64 0) := hR1.cell 0
    have q0 : w1.frozen? ⟨rb, 0, none⟩ = false := hR1.frozen 0
    have r1 : w1.cell? ⟨rb, 1, none⟩ = some (.int .i64 0) := hR1.cell 1
    have q1 : w1.frozen? ⟨rb, 1, none⟩ = false := hR1.frozen 1
    have r2 : w1.cell? ⟨rb, 2, none⟩ = some (.nilFunc) := hR1.cell 2
    have q2 : w1.frozen? ⟨rb, 2, none⟩ = false := hR1.frozen 2
    obtain ⟨Z, hZ⟩ : ∃ Z, Z = (((w1.setCell ⟨rb, 0, none⟩ (.int .i64 0)).setCell ⟨rb, 1, none⟩ (.int .i64 1)).setCell ⟨rb, 2, none⟩ (.nilFunc)) := ⟨_, rfl⟩
    have HZ : Hid (Blk Z rb #[.int .i64 0, .int .i64 1, .nilFunc] 62) := show Blk Z rb #[.int .i64 0, .int .i64 1, .nilFunc] 62 from by rw [hZ]; exact (Blk.set (Blk.set (Blk.set hR1 0 (.int .i64 0)) 1 (.int .i64 1)) 2 (.nilFunc))
    have HCZ : Hid (Chg (fun b => b = rb) w1 Z) := show Chg (fun b => b = rb) w1 Z from by rw [hZ]; exact (((setCell_chg _ _ _ _).trans (setCell_chg _ _ _ _) (fun _ _ e => e)).trans (setCell_chg _ _ _ _) (fun _ _ e => e))
    have HBZ : Hid (Below w.heap.size w Z) := show Below w.heap.size w Z from by have h := HW9.out.trans (hb1.mono HW9.out.size); exact h.trans (HCZ.out.below h.size (fun k e => by have := HLB.out.2; omega))
    clear hb1 hR1
    go_wp2_with fail
    rw [← hZ]
    refine bodyPost_ret (results_cell_row Try.results22 _ _ rb 62 _ (0, 0) _ rfl HZ.out Try.underlying62 rfl (by kernel_rfl)) rfl ?_
    rw [HO.out]
    exact ⟨.nilFunc, rfl, rfl, HBZ.out, fun h => absurd h (show ¬ (1 : Int) = 0 by decide)⟩
  · have HOB : Hid (opB k A B = true) := show opB k A B = true from by have h1 := hG.symm; rw [Bool.and_eq_true] at h1; exact h1.2
    have HGF : Hid (¬ (nameB n && opB k A B) = false) := show ¬ (nameB n && opB k A B) = false from by rw [← hG]; decide
    clear hG
    cases hl : Gm.look n L with
    | none =>
      have HLK : Hid (∀ wr, Gm.HMap MC wr mb L → (Instr.lookup 57 (.map (some mb)) (.string ⟨n.toArray⟩) true).run Try.prog wr = .ok (.tuple #[.agg #[.string ⟨#[]⟩, .int .i64 0, .int .i64 0, .int .i64 0, .map none], .bool false]) wr) := fun wr hwr => by have h1 := hwr.look_ok n true; rw [hl] at h1; exact h1
      by_cases hk : k = 1
      · have HO : Hid (mapO k A B q n L = createO A B) := show _ = _ from by unfold mapO; rw [if_neg HGF.out, hl]; simp only [if_pos hk]
        have HHO : Hid (hbOf k n L = none) := show _ = _ from by unfold hbOf; rw [if_pos hk]
        clear h hl HGF
        have HN : Hid (n.length ≤ 140737488355328) := hn
        clear hn
        have hk1 : (k == 1) = true := by simpa using hk
        have HK : Hid (k = 1) := hk
        clear hk
        go_enter Try.func22, Try.ntmps22
        go_upto_region 1 with fail
        rw [← hX, ← hrb, ← hob]
        clear hX hob hrb
        have o0 : X.cell? ⟨ob, 0, none⟩ = some (.int .i64 k) := Bob.out.cell 0
        have o1 : X.cell? ⟨ob, 1, none⟩ = some (.string ⟨n.toArray⟩) := Bob.out.cell 1
        have o2 : X.cell? ⟨ob, 2, none⟩ = some (.int .i64 A) := Bob.out.cell 2
        have o3 : X.cell? ⟨ob, 3, none⟩ = some (.int .i64 B) := Bob.out.cell 3
        go_wp2_with fail
        refine Calls.mono HRI.out ?_
        rintro e9 X1 ⟨rfl, hb9⟩
        have B9o : Hid (Blk X1 ob #[.int .i64 k, .string ⟨n.toArray⟩, .int .i64 A, .int .i64 B] 31) := Bob.out.below hb9 Bob.out.lt
        have B9r : Hid (Blk X1 rb #[.int .i64 0, .int .i64 0, .nilFunc] 62) := Brb.out.below hb9 Brb.out.lt
        have H9 : Hid (Below w.heap.size w X1) := HBX.out.trans (hb9.mono HBX.out.size)
        have HAM : Hid (AM ab mb L X1) := HAM0.out.more hb9
        clear hb9 Bob Brb HBX HAM0 HRI o0 o1 o2 o3
        have Bob := B9o
        have Brb := B9r
        have HBX := H9
        clear B9o B9r H9
        go_wp2_with fail
        rename_i K hK
        try rw [show ∀ a : Act, a.put none undef = a from fun _ => rfl]
        refine wp_region_mix (fun wq => Blk wq ab #[.map (some mb)] 59 ∧ Blk wq ob #[.int .i64 k, .string ⟨n.toArray⟩, .int .i64 A, .int .i64 B] 31 ∧ Gm.HMap MC wq mb L) (fun i => i == 10 || i == 11 || i == 99) 99 (by kernel_rfl) rfl (by kernel_rfl) (by kernel_rfl) (by kernel_rfl) ?_
        refine withFrP (N := 45) rfl ?_
        intro f0 F0 hff
        have ee0 : f0 0 = Value.pointer (some ⟨ab, 0, none⟩) := hff 0
        have ee4 : f0 4 = Value.pointer (some ⟨ob, 0, none⟩) := hff 4
        clear hff
        have HCC : (fun wq => Blk wq ab #[.map (some mb)] 59 ∧ Blk wq ob #[.int .i64 k, .string ⟨n.toArray⟩, .int .i64 A, .int .i64 B] 31 ∧ Gm.HMap MC wq mb L) (({ X1 with drawn := X1.drawn + 1 } : World)) := ⟨HAM.out.box, Bob.out, HAM.out.map⟩
        refine lyp F0 rfl HCC rfl (by omega) (wanted_none rfl) (v := Value.pointer (some ⟨ab, 0, none⟩)) (fun wr hwr => by simp only [execOp, (F0.eval 0 (by omega)).trans (show _ = Value.pointer (some ⟨ab, 0, none⟩) from by simp [upd, ee0, ee4])]; first | rfl | simp [go_sem]) fun F1 => ?_
        refine lyp F1 rfl HCC rfl (by omega) (wanted_none rfl) (v := Value.pointer (some ⟨ab, 0, none⟩)) (fun wr hwr => by simp only [execOp, (F1.eval 14 (by omega)).trans (show _ = Value.pointer (some ⟨ab, 0, none⟩) from by simp [upd, ee0, ee4])]; simp [go_sem]) fun F2 => ?_
        refine lyp F2 rfl HCC rfl (by omega) (wanted_none rfl) (v := Value.pointer (some ⟨ab, 0, none⟩)) (fun wr hwr => by simp only [execOp, (F2.eval 15 (by omega)).trans (show _ = Value.pointer (some ⟨ab, 0, none⟩) from by simp [upd, ee0, ee4])]; simp [go_sem]) fun F3 => ?_
        refine lyp F3 rfl HCC rfl (by omega) (wanted_none rfl) (v := Value.map (some mb)) (fun wr hwr => by simp only [execOp, (F3.eval 16 (by omega)).trans (show _ = Value.pointer (some ⟨ab, 0, none⟩) from by simp [upd, ee0, ee4])]; simp [go_sem, show wr.cell? ⟨ab, 0, none⟩ = some (.map (some mb)) from hwr.1.cell 0]) fun F4 => ?_
        refine lyp F4 rfl HCC rfl (by omega) (wanted_none rfl) (v := Value.pointer (some ⟨ob, 1, none⟩)) (fun wr hwr => by simp only [execOp, (F4.eval 4 (by omega)).trans (show _ = Value.pointer (some ⟨ob, 0, none⟩) from by simp [upd, ee0, ee4])]; simp [go_sem]) fun F5 => ?_
        refine lyp F5 rfl HCC rfl (by omega) (wanted_none rfl) (v := Value.string ⟨n.toArray⟩) (fun wr hwr => by simp only [execOp, (F5.eval 18 (by omega)).trans (show _ = Value.pointer (some ⟨ob, 1, none⟩) from by simp [upd, ee0, ee4])]; simp [go_sem, show wr.cell? ⟨ob, 1, none⟩ = some (.string ⟨n.toArray⟩) from hwr.2.1.cell 1]) fun F6 => ?_
        refine lyp F6 rfl HCC rfl (by omega) (wanted_none rfl) (v := Value.tuple #[.agg #[.string ⟨#[]⟩, .int .i64 0, .int .i64 0, .int .i64 0, .map none], .bool false]) (fun wr hwr => by simp only [execOp, (F6.eval 17 (by omega)).trans (show _ = Value.map (some mb) from by simp [upd, ee0, ee4]), (F6.eval 19 (by omega)).trans (show _ = Value.string ⟨n.toArray⟩ from by simp [upd, ee0, ee4])]; simp only [Sem.run_bind, Sem.run_pure, Result.andThen_ok, HLK.out wr hwr.2.2]; try rfl) fun F7 => ?_
        refine lyp F7 rfl HCC rfl (by omega) (wanted_none rfl) (v := Value.tuple #[.agg #[.string ⟨#[]⟩, .int .i64 0, .int .i64 0, .int .i64 0, .map none], .bool false]) (fun wr hwr => by simp only [execOp, (F7.eval 20 (by omega)).trans (show _ = Value.tuple #[.agg #[.string ⟨#[]⟩, .int .i64 0, .int .i64 0, .int .i64 0, .map none], .bool false] from by simp [upd, ee0, ee4])]; first | rfl | simp [go_sem]) fun F8 => ?_
        refine lyp F8 rfl HCC rfl (by omega) (wanted_none rfl) (v := Value.agg #[.string ⟨#[]⟩, .int .i64 0, .int .i64 0, .int .i64 0, .map none]) (fun wr hwr => by simp only [execOp, (F8.eval 13 (by omega)).trans (show _ = Value.tuple #[.agg #[.string ⟨#[]⟩, .int .i64 0, .int .i64 0, .int .i64 0, .map none], .bool false] from by simp [upd, ee0, ee4])]; simp [go_sem]) fun F9 => ?_
        refine lyp F9 rfl HCC rfl (by omega) (wanted_none rfl) (v := Value.bool false) (fun wr hwr => by simp only [execOp, (F9.eval 13 (by omega)).trans (show _ = Value.tuple #[.agg #[.string ⟨#[]⟩, .int .i64 0, .int .i64 0, .int .i64 0, .map none], .bool false] from by simp [upd, ee0, ee4])]; simp [go_sem]) fun F10 => ?_
        refine lep F10 rfl HCC rfl (by omega) (wanted_none rfl) (v := Value.pointer (some ⟨X1.heap.size, 0, none⟩)) (w1 := (({ X1 with drawn := X1.drawn + 1 } : World)).alloc (.cells #[.string ⟨#[]⟩, .int .i64 0, .int .i64 0, .int .i64 0, .map none] 67)) (by simp only [execOp]; simp [go_sem, zero67]) fun F11 => ?_
        have hbz : Below X1.heap.size X1 ((({ X1 with drawn := X1.drawn + 1 } : World)).alloc (.cells #[.string ⟨#[]⟩, .int .i64 0, .int .i64 0, .int .i64 0, .map none] 67)) := (Below.drew (Below.refl X1.heap.size X1)).alloc (Nat.le_refl _) _
        have HC2 : (fun wq => Blk wq ab #[.map (some mb)] 59 ∧ Blk wq ob #[.int .i64 k, .string ⟨n.toArray⟩, .int .i64 A, .int .i64 B] 31 ∧ Gm.HMap MC wq mb L) ((({ X1 with drawn := X1.drawn + 1 } : World)).alloc (.cells #[.string ⟨#[]⟩, .int .i64 0, .int .i64 0, .int .i64 0, .map none] 67)) := ⟨HAM.out.box.below hbz HAM.out.box.lt, Bob.out.below hbz Bob.out.lt, HAM.out.map.same (hbz.block _ HAM.out.map.lt)⟩
        have hZ0 : Blk ((({ X1 with drawn := X1.drawn + 1 } : World)).alloc (.cells #[.string ⟨#[]⟩, .int .i64 0, .int .i64 0, .int .i64 0, .map none] 67)) X1.heap.size #[.string ⟨#[]⟩, .int .i64 0, .int .i64 0, .int .i64 0, .map none] 67 := heap_alloc_new (({ X1 with drawn := X1.drawn + 1 } : World)) _
        obtain ⟨V, hV⟩ : ∃ V, V = World.setRow ((({ X1 with drawn := X1.drawn + 1 } : World)).alloc (.cells #[.string ⟨#[]⟩, .int .i64 0, .int .i64 0, .int .i64 0, .map none] 67)) X1.heap.size #[.string ⟨#[]⟩, .int .i64 0, .int .i64 0, .int .i64 0, .map none] := ⟨_, rfl⟩
        refine lst rfl HC2 rfl (wanted_none rfl) (w1 := V) (by rw [hV]; exact store_row rfl ((F11.eval 7 (by omega)).trans (show _ = Value.pointer (some ⟨X1.heap.size, 0, none⟩) from by simp [upd, ee0, ee4])) ((F11.eval 21 (by omega)).trans (show _ = Value.agg #[.string ⟨#[]⟩, .int .i64 0, .int .i64 0, .int .i64 0, .map none] from by simp [upd, ee0, ee4])) hZ0 (by kernel_rfl) rfl (by simp [Value.oneCell'])) ?_
        have hbV : Below X1.heap.size X1 V := by rw [hV]; exact hbz.trans (setRow_chg.below hbz.size (fun k e => Nat.le_of_eq e.symm))
        have hCV : Blk V X1.heap.size #[.string ⟨#[]⟩, .int .i64 0, .int .i64 0, .int .i64 0, .map none] 67 := by rw [hV]; exact setRow_blk hZ0
        have HC3 : (fun wq => Blk wq ab #[.map (some mb)] 59 ∧ Blk wq ob #[.int .i64 k, .string ⟨n.toArray⟩, .int .i64 A, .int .i64 B] 31 ∧ Gm.HMap MC wq mb L) V := ⟨HAM.out.box.below hbV HAM.out.box.lt, Bob.out.below hbV Bob.out.lt, HAM.out.map.same (hbV.block _ HAM.out.map.lt)⟩
        refine lyp F11 rfl HC3 rfl (by omega) (wanted_none rfl) (v := Value.bool false) (fun wr hwr => by simp only [execOp, (F11.eval 22 (by omega)).trans (show _ = Value.bool false from by simp [upd, ee0, ee4])]; first | rfl | simp [go_sem]) fun F12 => ?_
        refine ⟨fun _ => HC3, ?_⟩
        refine hK _ _ ?_
        clear F0 F1 F2 F3 F4 F5 F6 F7 F8 F9 F10 F11 F12 ee0 ee4 HCC HC2 HC3 hbz hZ0 hV
        simp only [Act.put, List.setIfInBounds_toArray, List.set_cons_succ, List.set_cons_zero]
        have HBV : Hid (Below X1.heap.size X1 V) := hbV
        have HWV : Hid (Below w.heap.size w V) := HBX.out.trans (hbV.mono HBX.out.size)
        have HCV : Hid (Blk V X1.heap.size #[.string ⟨#[]⟩, .int .i64 0, .int .i64 0, .int .i64 0, .map none] 67) := hCV
        have hOb : Blk V ob #[.int .i64 k, .string ⟨n.toArray⟩, .int .i64 A, .int .i64 B] 31 := Bob.out.below hbV Bob.out.lt
        have VR : Hid (Blk V rb #[.int .i64 0, .int .i64 0, .nilFunc] 62) := Brb.out.below hbV Brb.out.lt
        have o0 : V.cell? ⟨ob, 0, none⟩ = some (.int .i64 k) := hOb.cell 0
        have o1 : V.cell? ⟨ob, 1, none⟩ = some (.string ⟨n.toArray⟩) := hOb.cell 1
        have o2 : V.cell? ⟨ob, 2, none⟩ = some (.int .i64 A) := hOb.cell 2
        have o3 : V.cell? ⟨ob, 3, none⟩ = some (.int .i64 B) := hOb.cell 3
        clear hbV hCV hOb
        have HM : Hid (Calls Try.prog 32 #[.agg #[.int .i64 k, .string ⟨n.toArray⟩, .int .i64 A, .int .i64 B]] V (PlPost none n (createO A B) V)) := create_any k A B n V HN.out
        rw [HO.out]
        rw [HHO.out]
        generalize createO A B = R at *
        go_wp2_with fail
        refine Calls.mono HM.out ?_
        rintro e9 w1 ⟨fv, rfl, hone, hb1, hdo⟩
        have hst : ∀ (A : Addr) (m : Mode) (W : World), (store A fv m).run Try.prog W = stored Try.prog W A fv m := fun A m W => run_store _ _ _ _ _ hone
        have hR1 : Blk w1 rb #[.int .i64 0, .int .i64 0, .nilFunc] 62 := VR.out.below hb1 VR.out.lt
        have HDO : Hid _ := hdo
        have HXS : Hid (w.heap.size ≤ V.heap.size) := HWV.out.size
        have HR1 : Hid (Blk w1 rb #[.int .i64 0, .int .i64 0, .nilFunc] 62) := hR1
        have r0 : w1.cell? ⟨rb, 0, none⟩ = some (.int .i64 0) := hR1.cell 0
        have q0 : w1.frozen? ⟨rb, 0, none⟩ = false := hR1.frozen 0
        have r1 : w1.cell? ⟨rb, 1, none⟩ = some (.int .i64 0) := hR1.cell 1
        have q1 : w1.frozen? ⟨rb, 1, none⟩ = false := hR1.frozen 1
        have r2 : w1.cell? ⟨rb, 2, none⟩ = some (.nilFunc) := hR1.cell 2
        have q2 : w1.frozen? ⟨rb, 2, none⟩ = false := hR1.frozen 2
        obtain ⟨Z, hZ⟩ : ∃ Z, Z = (((w1.setCell ⟨rb, 0, none⟩ (.int .i64 R.1.1)).setCell ⟨rb, 1, none⟩ (.int .i64 R.1.2)).setCell ⟨rb, 2, none⟩ (fv)) := ⟨_, rfl⟩
        have HZ : Hid (Blk Z rb #[.int .i64 R.1.1, .int .i64 R.1.2, fv] 62) := show Blk Z rb #[.int .i64 R.1.1, .int .i64 R.1.2, fv] 62 from by rw [hZ]; exact (Blk.set (Blk.set (Blk.set hR1 0 (.int .i64 R.1.1)) 1 (.int .i64 R.1.2)) 2 (fv))
        have HCZ : Hid (Chg (fun b => b = rb) w1 Z) := show Chg (fun b => b = rb) w1 Z from by rw [hZ]; exact (((setCell_chg _ _ _ _).trans (setCell_chg _ _ _ _) (fun _ _ e => e)).trans (setCell_chg _ _ _ _) (fun _ _ e => e))
        have HBZ : Hid (Below w.heap.size w Z) := show Below w.heap.size w Z from by have h := HWV.out.trans (hb1.mono HWV.out.size); exact h.trans (HCZ.out.below h.size (fun k e => by have := HLB.out.2; omega))
        clear hb1 hR1 hdo o0 o1 o2 o3
        go_wp2_with fail
        rw [← hZ]
        refine bodyPost_ret (results_cell_row Try.results22 _ _ rb 62 _ (0, 0) _ rfl HZ.out Try.underlying62 rfl (by kernel_rfl)) rfl ?_
        refine ⟨fv, rfl, hone, HBZ.out, fun hz => ?_⟩
        exact (HDO.out hz).later HCZ.out HXS.out (fun k hk e => by have := VR.out.lt; omega) (fun k hk => by cases hk)
      · have HO : Hid (mapO k A B q n L = ((0, 100), (0, 0, 0, []))) := show _ = _ from by unfold mapO; rw [if_neg HGF.out, hl]; simp only [if_neg hk]
        clear h hl HGF
        clear hn
        have hk1 : (k == 1) = false := by simpa using hk
        have HK : Hid (¬ k = 1) := hk
        clear hk
        go_enter Try.func22, Try.ntmps22
        go_upto_region 1 with fail
        rw [← hX, ← hrb, ← hob]
        clear hX hob hrb
        have o0 : X.cell? ⟨ob, 0, none⟩ = some (.int .i64 k) := Bob.out.cell 0
        have o1 : X.cell? ⟨ob, 1, none⟩ = some (.string ⟨n.toArray⟩) := Bob.out.cell 1
        have o2 : X.cell? ⟨ob, 2, none⟩ = some (.int .i64 A) := Bob.out.cell 2
        have o3 : X.cell? ⟨ob, 3, none⟩ = some (.int .i64 B) := Bob.out.cell 3
        go_wp2_with fail
        refine Calls.mono HRI.out ?_
        rintro e9 X1 ⟨rfl, hb9⟩
        have B9o : Hid (Blk X1 ob #[.int .i64 k, .string ⟨n.toArray⟩, .int .i64 A, .int .i64 B] 31) := Bob.out.below hb9 Bob.out.lt
        have B9r : Hid (Blk X1 rb #[.int .i64 0, .int .i64 0, .nilFunc] 62) := Brb.out.below hb9 Brb.out.lt
        have H9 : Hid (Below w.heap.size w X1) := HBX.out.trans (hb9.mono HBX.out.size)
        have HAM : Hid (AM ab mb L X1) := HAM0.out.more hb9
        clear hb9 Bob Brb HBX HAM0 HRI o0 o1 o2 o3
        have Bob := B9o
        have Brb := B9r
        have HBX := H9
        clear B9o B9r H9
        go_wp2_with fail
        rename_i K hK
        try rw [show ∀ a : Act, a.put none undef = a from fun _ => rfl]
        refine wp_region_mix (fun wq => Blk wq ab #[.map (some mb)] 59 ∧ Blk wq ob #[.int .i64 k, .string ⟨n.toArray⟩, .int .i64 A, .int .i64 B] 31 ∧ Gm.HMap MC wq mb L) (fun i => i == 10 || i == 11 || i == 99) 99 (by kernel_rfl) rfl (by kernel_rfl) (by kernel_rfl) (by kernel_rfl) ?_
        refine withFrP (N := 45) rfl ?_
        intro f0 F0 hff
        have ee0 : f0 0 = Value.pointer (some ⟨ab, 0, none⟩) := hff 0
        have ee4 : f0 4 = Value.pointer (some ⟨ob, 0, none⟩) := hff 4
        clear hff
        have HCC : (fun wq => Blk wq ab #[.map (some mb)] 59 ∧ Blk wq ob #[.int .i64 k, .string ⟨n.toArray⟩, .int .i64 A, .int .i64 B] 31 ∧ Gm.HMap MC wq mb L) (({ X1 with drawn := X1.drawn + 1 } : World)) := ⟨HAM.out.box, Bob.out, HAM.out.map⟩
        refine lyp F0 rfl HCC rfl (by omega) (wanted_none rfl) (v := Value.pointer (some ⟨ab, 0, none⟩)) (fun wr hwr => by simp only [execOp, (F0.eval 0 (by omega)).trans (show _ = Value.pointer (some ⟨ab, 0, none⟩) from by simp [upd, ee0, ee4])]; first | rfl | simp [go_sem]) fun F1 => ?_
        refine lyp F1 rfl HCC rfl (by omega) (wanted_none rfl) (v := Value.pointer (some ⟨ab, 0, none⟩)) (fun wr hwr => by simp only [execOp, (F1.eval 14 (by omega)).trans (show _ = Value.pointer (some ⟨ab, 0, none⟩) from by simp [upd, ee0, ee4])]; simp [go_sem]) fun F2 => ?_
        refine lyp F2 rfl HCC rfl (by omega) (wanted_none rfl) (v := Value.pointer (some ⟨ab, 0, none⟩)) (fun wr hwr => by simp only [execOp, (F2.eval 15 (by omega)).trans (show _ = Value.pointer (some ⟨ab, 0, none⟩) from by simp [upd, ee0, ee4])]; simp [go_sem]) fun F3 => ?_
        refine lyp F3 rfl HCC rfl (by omega) (wanted_none rfl) (v := Value.map (some mb)) (fun wr hwr => by simp only [execOp, (F3.eval 16 (by omega)).trans (show _ = Value.pointer (some ⟨ab, 0, none⟩) from by simp [upd, ee0, ee4])]; simp [go_sem, show wr.cell? ⟨ab, 0, none⟩ = some (.map (some mb)) from hwr.1.cell 0]) fun F4 => ?_
        refine lyp F4 rfl HCC rfl (by omega) (wanted_none rfl) (v := Value.pointer (some ⟨ob, 1, none⟩)) (fun wr hwr => by simp only [execOp, (F4.eval 4 (by omega)).trans (show _ = Value.pointer (some ⟨ob, 0, none⟩) from by simp [upd, ee0, ee4])]; simp [go_sem]) fun F5 => ?_
        refine lyp F5 rfl HCC rfl (by omega) (wanted_none rfl) (v := Value.string ⟨n.toArray⟩) (fun wr hwr => by simp only [execOp, (F5.eval 18 (by omega)).trans (show _ = Value.pointer (some ⟨ob, 1, none⟩) from by simp [upd, ee0, ee4])]; simp [go_sem, show wr.cell? ⟨ob, 1, none⟩ = some (.string ⟨n.toArray⟩) from hwr.2.1.cell 1]) fun F6 => ?_
        refine lyp F6 rfl HCC rfl (by omega) (wanted_none rfl) (v := Value.tuple #[.agg #[.string ⟨#[]⟩, .int .i64 0, .int .i64 0, .int .i64 0, .map none], .bool false]) (fun wr hwr => by simp only [execOp, (F6.eval 17 (by omega)).trans (show _ = Value.map (some mb) from by simp [upd, ee0, ee4]), (F6.eval 19 (by omega)).trans (show _ = Value.string ⟨n.toArray⟩ from by simp [upd, ee0, ee4])]; simp only [Sem.run_bind, Sem.run_pure, Result.andThen_ok, HLK.out wr hwr.2.2]; try rfl) fun F7 => ?_
        refine lyp F7 rfl HCC rfl (by omega) (wanted_none rfl) (v := Value.tuple #[.agg #[.string ⟨#[]⟩, .int .i64 0, .int .i64 0, .int .i64 0, .map none], .bool false]) (fun wr hwr => by simp only [execOp, (F7.eval 20 (by omega)).trans (show _ = Value.tuple #[.agg #[.string ⟨#[]⟩, .int .i64 0, .int .i64 0, .int .i64 0, .map none], .bool false] from by simp [upd, ee0, ee4])]; first | rfl | simp [go_sem]) fun F8 => ?_
        refine lyp F8 rfl HCC rfl (by omega) (wanted_none rfl) (v := Value.agg #[.string ⟨#[]⟩, .int .i64 0, .int .i64 0, .int .i64 0, .map none]) (fun wr hwr => by simp only [execOp, (F8.eval 13 (by omega)).trans (show _ = Value.tuple #[.agg #[.string ⟨#[]⟩, .int .i64 0, .int .i64 0, .int .i64 0, .map none], .bool false] from by simp [upd, ee0, ee4])]; simp [go_sem]) fun F9 => ?_
        refine lyp F9 rfl HCC rfl (by omega) (wanted_none rfl) (v := Value.bool false) (fun wr hwr => by simp only [execOp, (F9.eval 13 (by omega)).trans (show _ = Value.tuple #[.agg #[.string ⟨#[]⟩, .int .i64 0, .int .i64 0, .int .i64 0, .map none], .bool false] from by simp [upd, ee0, ee4])]; simp [go_sem]) fun F10 => ?_
        refine lep F10 rfl HCC rfl (by omega) (wanted_none rfl) (v := Value.pointer (some ⟨X1.heap.size, 0, none⟩)) (w1 := (({ X1 with drawn := X1.drawn + 1 } : World)).alloc (.cells #[.string ⟨#[]⟩, .int .i64 0, .int .i64 0, .int .i64 0, .map none] 67)) (by simp only [execOp]; simp [go_sem, zero67]) fun F11 => ?_
        have hbz : Below X1.heap.size X1 ((({ X1 with drawn := X1.drawn + 1 } : World)).alloc (.cells #[.string ⟨#[]⟩, .int .i64 0, .int .i64 0, .int .i64 0, .map none] 67)) := (Below.drew (Below.refl X1.heap.size X1)).alloc (Nat.le_refl _) _
        have HC2 : (fun wq => Blk wq ab #[.map (some mb)] 59 ∧ Blk wq ob #[.int .i64 k, .string ⟨n.toArray⟩, .int .i64 A, .int .i64 B] 31 ∧ Gm.HMap MC wq mb L) ((({ X1 with drawn := X1.drawn + 1 } : World)).alloc (.cells #[.string ⟨#[]⟩, .int .i64 0, .int .i64 0, .int .i64 0, .map none] 67)) := ⟨HAM.out.box.below hbz HAM.out.box.lt, Bob.out.below hbz Bob.out.lt, HAM.out.map.same (hbz.block _ HAM.out.map.lt)⟩
        have hZ0 : Blk ((({ X1 with drawn := X1.drawn + 1 } : World)).alloc (.cells #[.string ⟨#[]⟩, .int .i64 0, .int .i64 0, .int .i64 0, .map none] 67)) X1.heap.size #[.string ⟨#[]⟩, .int .i64 0, .int .i64 0, .int .i64 0, .map none] 67 := heap_alloc_new (({ X1 with drawn := X1.drawn + 1 } : World)) _
        obtain ⟨V, hV⟩ : ∃ V, V = World.setRow ((({ X1 with drawn := X1.drawn + 1 } : World)).alloc (.cells #[.string ⟨#[]⟩, .int .i64 0, .int .i64 0, .int .i64 0, .map none] 67)) X1.heap.size #[.string ⟨#[]⟩, .int .i64 0, .int .i64 0, .int .i64 0, .map none] := ⟨_, rfl⟩
        refine lst rfl HC2 rfl (wanted_none rfl) (w1 := V) (by rw [hV]; exact store_row rfl ((F11.eval 7 (by omega)).trans (show _ = Value.pointer (some ⟨X1.heap.size, 0, none⟩) from by simp [upd, ee0, ee4])) ((F11.eval 21 (by omega)).trans (show _ = Value.agg #[.string ⟨#[]⟩, .int .i64 0, .int .i64 0, .int .i64 0, .map none] from by simp [upd, ee0, ee4])) hZ0 (by kernel_rfl) rfl (by simp [Value.oneCell'])) ?_
        have hbV : Below X1.heap.size X1 V := by rw [hV]; exact hbz.trans (setRow_chg.below hbz.size (fun k e => Nat.le_of_eq e.symm))
        have hCV : Blk V X1.heap.size #[.string ⟨#[]⟩, .int .i64 0, .int .i64 0, .int .i64 0, .map none] 67 := by rw [hV]; exact setRow_blk hZ0
        have HC3 : (fun wq => Blk wq ab #[.map (some mb)] 59 ∧ Blk wq ob #[.int .i64 k, .string ⟨n.toArray⟩, .int .i64 A, .int .i64 B] 31 ∧ Gm.HMap MC wq mb L) V := ⟨HAM.out.box.below hbV HAM.out.box.lt, Bob.out.below hbV Bob.out.lt, HAM.out.map.same (hbV.block _ HAM.out.map.lt)⟩
        refine lyp F11 rfl HC3 rfl (by omega) (wanted_none rfl) (v := Value.bool false) (fun wr hwr => by simp only [execOp, (F11.eval 22 (by omega)).trans (show _ = Value.bool false from by simp [upd, ee0, ee4])]; first | rfl | simp [go_sem]) fun F12 => ?_
        refine ⟨fun _ => HC3, ?_⟩
        refine hK _ _ ?_
        clear F0 F1 F2 F3 F4 F5 F6 F7 F8 F9 F10 F11 F12 ee0 ee4 HCC HC2 HC3 hbz hZ0 hV
        simp only [Act.put, List.setIfInBounds_toArray, List.set_cons_succ, List.set_cons_zero]
        have HBV : Hid (Below X1.heap.size X1 V) := hbV
        have HWV : Hid (Below w.heap.size w V) := HBX.out.trans (hbV.mono HBX.out.size)
        have HCV : Hid (Blk V X1.heap.size #[.string ⟨#[]⟩, .int .i64 0, .int .i64 0, .int .i64 0, .map none] 67) := hCV
        have hOb : Blk V ob #[.int .i64 k, .string ⟨n.toArray⟩, .int .i64 A, .int .i64 B] 31 := Bob.out.below hbV Bob.out.lt
        have VR : Hid (Blk V rb #[.int .i64 0, .int .i64 0, .nilFunc] 62) := Brb.out.below hbV Brb.out.lt
        have o0 : V.cell? ⟨ob, 0, none⟩ = some (.int .i64 k) := hOb.cell 0
        have o1 : V.cell? ⟨ob, 1, none⟩ = some (.string ⟨n.toArray⟩) := hOb.cell 1
        have o2 : V.cell? ⟨ob, 2, none⟩ = some (.int .i64 A) := hOb.cell 2
        have o3 : V.cell? ⟨ob, 3, none⟩ = some (.int .i64 B) := hOb.cell 3
        clear hbV hCV hOb
        go_wp2_with fail
        refine Calls.mono (refused_any 100 V) ?_
        rintro e9 w1 ⟨rfl, hb1⟩
        have hR1 : Blk w1 rb #[.int .i64 0, .int .i64 0, .nilFunc] 62 := VR.out.below hb1 VR.out.lt
        have r0 : w1.cell? ⟨rb, 0, none⟩ = some (.int .i64 0) := hR1.cell 0
        have q0 : w1.frozen? ⟨rb, 0, none⟩ = false := hR1.frozen 0
        have r1 : w1.cell? ⟨rb, 1, none⟩ = some (.int .i64 0) := hR1.cell 1
        have q1 : w1.frozen? ⟨rb, 1, none⟩ = false := hR1.frozen 1
        have r2 : w1.cell? ⟨rb, 2, none⟩ = some (.nilFunc) := hR1.cell 2
        have q2 : w1.frozen? ⟨rb, 2, none⟩ = false := hR1.frozen 2
        obtain ⟨Z, hZ⟩ : ∃ Z, Z = (((w1.setCell ⟨rb, 0, none⟩ (.int .i64 0)).setCell ⟨rb, 1, none⟩ (.int .i64 100)).setCell ⟨rb, 2, none⟩ (.nilFunc)) := ⟨_, rfl⟩
        have HZ : Hid (Blk Z rb #[.int .i64 0, .int .i64 100, .nilFunc] 62) := show Blk Z rb #[.int .i64 0, .int .i64 100, .nilFunc] 62 from by rw [hZ]; exact (Blk.set (Blk.set (Blk.set hR1 0 (.int .i64 0)) 1 (.int .i64 100)) 2 (.nilFunc))
        have HCZ : Hid (Chg (fun b => b = rb) w1 Z) := show Chg (fun b => b = rb) w1 Z from by rw [hZ]; exact (((setCell_chg _ _ _ _).trans (setCell_chg _ _ _ _) (fun _ _ e => e)).trans (setCell_chg _ _ _ _) (fun _ _ e => e))
        have HBZ : Hid (Below w.heap.size w Z) := show Below w.heap.size w Z from by have h := HWV.out.trans (hb1.mono HWV.out.size); exact h.trans (HCZ.out.below h.size (fun k e => by have := HLB.out.2; omega))
        clear hb1 hR1
        go_wp2_with fail
        rw [← hZ]
        refine bodyPost_ret (results_cell_row Try.results22 _ _ rb 62 _ (0, 0) _ rfl HZ.out Try.underlying62 rfl (by kernel_rfl)) rfl ?_
        rw [HO.out]
        exact ⟨.nilFunc, rfl, rfl, HBZ.out, fun h => absurd h (show ¬ (100 : Int) = 0 by decide)⟩
    | some c =>
      obtain ⟨hnm, hok, hb, hhb, hiw, _⟩ := h.ct (n, c) (look_mem hl)
      have HNM : Hid (c.nm = n) := hnm
      have HOK : Hid c.Ok := hok
      have HHB : Hid (c.hb = some hb) := hhb
      have HIW : Hid (HI w hb c.H) := hiw
      clear hnm hok hhb hiw
      have HLK : Hid (∀ wr, Gm.HMap MC wr mb L → (Instr.lookup 57 (.map (some mb)) (.string ⟨n.toArray⟩) true).run Try.prog wr = .ok (.tuple #[.agg #[.string ⟨c.nm.toArray⟩, .int .i64 c.lim, .int .i64 c.val, .int .i64 c.held, .map (some hb)], .bool true]) wr) := fun wr hwr => by have h1 := hwr.look_ok n true; rw [hl] at h1; simp only [Option.getD_some, Option.isSome_some, MC, ctV, Ct.cs, HHB.out, cond_true] at h1; exact h1
      by_cases hk : k = 1
      · have HO : Hid (mapO k A B q n L = ((0, 101), (0, 0, 0, []))) := show _ = _ from by unfold mapO; rw [if_neg HGF.out, hl]; simp only [if_pos hk]
        clear h hl HGF
        clear hn
        have hk1 : (k == 1) = true := by simpa using hk
        have HK : Hid (k = 1) := hk
        clear hk
        go_enter Try.func22, Try.ntmps22
        go_upto_region 1 with fail
        rw [← hX, ← hrb, ← hob]
        clear hX hob hrb
        have o0 : X.cell? ⟨ob, 0, none⟩ = some (.int .i64 k) := Bob.out.cell 0
        have o1 : X.cell? ⟨ob, 1, none⟩ = some (.string ⟨n.toArray⟩) := Bob.out.cell 1
        have o2 : X.cell? ⟨ob, 2, none⟩ = some (.int .i64 A) := Bob.out.cell 2
        have o3 : X.cell? ⟨ob, 3, none⟩ = some (.int .i64 B) := Bob.out.cell 3
        go_wp2_with fail
        refine Calls.mono HRI.out ?_
        rintro e9 X1 ⟨rfl, hb9⟩
        have B9o : Hid (Blk X1 ob #[.int .i64 k, .string ⟨n.toArray⟩, .int .i64 A, .int .i64 B] 31) := Bob.out.below hb9 Bob.out.lt
        have B9r : Hid (Blk X1 rb #[.int .i64 0, .int .i64 0, .nilFunc] 62) := Brb.out.below hb9 Brb.out.lt
        have H9 : Hid (Below w.heap.size w X1) := HBX.out.trans (hb9.mono HBX.out.size)
        have HAM : Hid (AM ab mb L X1) := HAM0.out.more hb9
        clear hb9 Bob Brb HBX HAM0 HRI o0 o1 o2 o3
        have Bob := B9o
        have Brb := B9r
        have HBX := H9
        clear B9o B9r H9
        go_wp2_with fail
        rename_i K hK
        try rw [show ∀ a : Act, a.put none undef = a from fun _ => rfl]
        refine wp_region_mix (fun wq => Blk wq ab #[.map (some mb)] 59 ∧ Blk wq ob #[.int .i64 k, .string ⟨n.toArray⟩, .int .i64 A, .int .i64 B] 31 ∧ Gm.HMap MC wq mb L) (fun i => i == 10 || i == 11 || i == 99) 99 (by kernel_rfl) rfl (by kernel_rfl) (by kernel_rfl) (by kernel_rfl) ?_
        refine withFrP (N := 45) rfl ?_
        intro f0 F0 hff
        have ee0 : f0 0 = Value.pointer (some ⟨ab, 0, none⟩) := hff 0
        have ee4 : f0 4 = Value.pointer (some ⟨ob, 0, none⟩) := hff 4
        clear hff
        have HCC : (fun wq => Blk wq ab #[.map (some mb)] 59 ∧ Blk wq ob #[.int .i64 k, .string ⟨n.toArray⟩, .int .i64 A, .int .i64 B] 31 ∧ Gm.HMap MC wq mb L) (({ X1 with drawn := X1.drawn + 1 } : World)) := ⟨HAM.out.box, Bob.out, HAM.out.map⟩
        refine lyp F0 rfl HCC rfl (by omega) (wanted_none rfl) (v := Value.pointer (some ⟨ab, 0, none⟩)) (fun wr hwr => by simp only [execOp, (F0.eval 0 (by omega)).trans (show _ = Value.pointer (some ⟨ab, 0, none⟩) from by simp [upd, ee0, ee4])]; first | rfl | simp [go_sem]) fun F1 => ?_
        refine lyp F1 rfl HCC rfl (by omega) (wanted_none rfl) (v := Value.pointer (some ⟨ab, 0, none⟩)) (fun wr hwr => by simp only [execOp, (F1.eval 14 (by omega)).trans (show _ = Value.pointer (some ⟨ab, 0, none⟩) from by simp [upd, ee0, ee4])]; simp [go_sem]) fun F2 => ?_
        refine lyp F2 rfl HCC rfl (by omega) (wanted_none rfl) (v := Value.pointer (some ⟨ab, 0, none⟩)) (fun wr hwr => by simp only [execOp, (F2.eval 15 (by omega)).trans (show _ = Value.pointer (some ⟨ab, 0, none⟩) from by simp [upd, ee0, ee4])]; simp [go_sem]) fun F3 => ?_
        refine lyp F3 rfl HCC rfl (by omega) (wanted_none rfl) (v := Value.map (some mb)) (fun wr hwr => by simp only [execOp, (F3.eval 16 (by omega)).trans (show _ = Value.pointer (some ⟨ab, 0, none⟩) from by simp [upd, ee0, ee4])]; simp [go_sem, show wr.cell? ⟨ab, 0, none⟩ = some (.map (some mb)) from hwr.1.cell 0]) fun F4 => ?_
        refine lyp F4 rfl HCC rfl (by omega) (wanted_none rfl) (v := Value.pointer (some ⟨ob, 1, none⟩)) (fun wr hwr => by simp only [execOp, (F4.eval 4 (by omega)).trans (show _ = Value.pointer (some ⟨ob, 0, none⟩) from by simp [upd, ee0, ee4])]; simp [go_sem]) fun F5 => ?_
        refine lyp F5 rfl HCC rfl (by omega) (wanted_none rfl) (v := Value.string ⟨n.toArray⟩) (fun wr hwr => by simp only [execOp, (F5.eval 18 (by omega)).trans (show _ = Value.pointer (some ⟨ob, 1, none⟩) from by simp [upd, ee0, ee4])]; simp [go_sem, show wr.cell? ⟨ob, 1, none⟩ = some (.string ⟨n.toArray⟩) from hwr.2.1.cell 1]) fun F6 => ?_
        refine lyp F6 rfl HCC rfl (by omega) (wanted_none rfl) (v := Value.tuple #[.agg #[.string ⟨c.nm.toArray⟩, .int .i64 c.lim, .int .i64 c.val, .int .i64 c.held, .map (some hb)], .bool true]) (fun wr hwr => by simp only [execOp, (F6.eval 17 (by omega)).trans (show _ = Value.map (some mb) from by simp [upd, ee0, ee4]), (F6.eval 19 (by omega)).trans (show _ = Value.string ⟨n.toArray⟩ from by simp [upd, ee0, ee4])]; simp only [Sem.run_bind, Sem.run_pure, Result.andThen_ok, HLK.out wr hwr.2.2]; try rfl) fun F7 => ?_
        refine lyp F7 rfl HCC rfl (by omega) (wanted_none rfl) (v := Value.tuple #[.agg #[.string ⟨c.nm.toArray⟩, .int .i64 c.lim, .int .i64 c.val, .int .i64 c.held, .map (some hb)], .bool true]) (fun wr hwr => by simp only [execOp, (F7.eval 20 (by omega)).trans (show _ = Value.tuple #[.agg #[.string ⟨c.nm.toArray⟩, .int .i64 c.lim, .int .i64 c.val, .int .i64 c.held, .map (some hb)], .bool true] from by simp [upd, ee0, ee4])]; first | rfl | simp [go_sem]) fun F8 => ?_
        refine lyp F8 rfl HCC rfl (by omega) (wanted_none rfl) (v := Value.agg #[.string ⟨c.nm.toArray⟩, .int .i64 c.lim, .int .i64 c.val, .int .i64 c.held, .map (some hb)]) (fun wr hwr => by simp only [execOp, (F8.eval 13 (by omega)).trans (show _ = Value.tuple #[.agg #[.string ⟨c.nm.toArray⟩, .int .i64 c.lim, .int .i64 c.val, .int .i64 c.held, .map (some hb)], .bool true] from by simp [upd, ee0, ee4])]; simp [go_sem]) fun F9 => ?_
        refine lyp F9 rfl HCC rfl (by omega) (wanted_none rfl) (v := Value.bool true) (fun wr hwr => by simp only [execOp, (F9.eval 13 (by omega)).trans (show _ = Value.tuple #[.agg #[.string ⟨c.nm.toArray⟩, .int .i64 c.lim, .int .i64 c.val, .int .i64 c.held, .map (some hb)], .bool true] from by simp [upd, ee0, ee4])]; simp [go_sem]) fun F10 => ?_
        refine lep F10 rfl HCC rfl (by omega) (wanted_none rfl) (v := Value.pointer (some ⟨X1.heap.size, 0, none⟩)) (w1 := (({ X1 with drawn := X1.drawn + 1 } : World)).alloc (.cells #[.string ⟨#[]⟩, .int .i64 0, .int .i64 0, .int .i64 0, .map none] 67)) (by simp only [execOp]; simp [go_sem, zero67]) fun F11 => ?_
        have hbz : Below X1.heap.size X1 ((({ X1 with drawn := X1.drawn + 1 } : World)).alloc (.cells #[.string ⟨#[]⟩, .int .i64 0, .int .i64 0, .int .i64 0, .map none] 67)) := (Below.drew (Below.refl X1.heap.size X1)).alloc (Nat.le_refl _) _
        have HC2 : (fun wq => Blk wq ab #[.map (some mb)] 59 ∧ Blk wq ob #[.int .i64 k, .string ⟨n.toArray⟩, .int .i64 A, .int .i64 B] 31 ∧ Gm.HMap MC wq mb L) ((({ X1 with drawn := X1.drawn + 1 } : World)).alloc (.cells #[.string ⟨#[]⟩, .int .i64 0, .int .i64 0, .int .i64 0, .map none] 67)) := ⟨HAM.out.box.below hbz HAM.out.box.lt, Bob.out.below hbz Bob.out.lt, HAM.out.map.same (hbz.block _ HAM.out.map.lt)⟩
        have hZ0 : Blk ((({ X1 with drawn := X1.drawn + 1 } : World)).alloc (.cells #[.string ⟨#[]⟩, .int .i64 0, .int .i64 0, .int .i64 0, .map none] 67)) X1.heap.size #[.string ⟨#[]⟩, .int .i64 0, .int .i64 0, .int .i64 0, .map none] 67 := heap_alloc_new (({ X1 with drawn := X1.drawn + 1 } : World)) _
        obtain ⟨V, hV⟩ : ∃ V, V = World.setRow ((({ X1 with drawn := X1.drawn + 1 } : World)).alloc (.cells #[.string ⟨#[]⟩, .int .i64 0, .int .i64 0, .int .i64 0, .map none] 67)) X1.heap.size #[.string ⟨c.nm.toArray⟩, .int .i64 c.lim, .int .i64 c.val, .int .i64 c.held, .map (some hb)] := ⟨_, rfl⟩
        refine lst rfl HC2 rfl (wanted_none rfl) (w1 := V) (by rw [hV]; exact store_row rfl ((F11.eval 7 (by omega)).trans (show _ = Value.pointer (some ⟨X1.heap.size, 0, none⟩) from by simp [upd, ee0, ee4])) ((F11.eval 21 (by omega)).trans (show _ = Value.agg #[.string ⟨c.nm.toArray⟩, .int .i64 c.lim, .int .i64 c.val, .int .i64 c.held, .map (some hb)] from by simp [upd, ee0, ee4])) hZ0 (by kernel_rfl) rfl (by simp [Value.oneCell'])) ?_
        have hbV : Below X1.heap.size X1 V := by rw [hV]; exact hbz.trans (setRow_chg.below hbz.size (fun k e => Nat.le_of_eq e.symm))
        have hCV : Blk V X1.heap.size #[.string ⟨c.nm.toArray⟩, .int .i64 c.lim, .int .i64 c.val, .int .i64 c.held, .map (some hb)] 67 := by rw [hV]; exact setRow_blk hZ0
        have HC3 : (fun wq => Blk wq ab #[.map (some mb)] 59 ∧ Blk wq ob #[.int .i64 k, .string ⟨n.toArray⟩, .int .i64 A, .int .i64 B] 31 ∧ Gm.HMap MC wq mb L) V := ⟨HAM.out.box.below hbV HAM.out.box.lt, Bob.out.below hbV Bob.out.lt, HAM.out.map.same (hbV.block _ HAM.out.map.lt)⟩
        refine lyp F11 rfl HC3 rfl (by omega) (wanted_none rfl) (v := Value.bool true) (fun wr hwr => by simp only [execOp, (F11.eval 22 (by omega)).trans (show _ = Value.bool true from by simp [upd, ee0, ee4])]; first | rfl | simp [go_sem]) fun F12 => ?_
        refine ⟨fun _ => HC3, ?_⟩
        refine hK _ _ ?_
        clear F0 F1 F2 F3 F4 F5 F6 F7 F8 F9 F10 F11 F12 ee0 ee4 HCC HC2 HC3 hbz hZ0 hV
        simp only [Act.put, List.setIfInBounds_toArray, List.set_cons_succ, List.set_cons_zero]
        have HBV : Hid (Below X1.heap.size X1 V) := hbV
        have HWV : Hid (Below w.heap.size w V) := HBX.out.trans (hbV.mono HBX.out.size)
        have HCV : Hid (Blk V X1.heap.size #[.string ⟨c.nm.toArray⟩, .int .i64 c.lim, .int .i64 c.val, .int .i64 c.held, .map (some hb)] 67) := hCV
        have hOb : Blk V ob #[.int .i64 k, .string ⟨n.toArray⟩, .int .i64 A, .int .i64 B] 31 := Bob.out.below hbV Bob.out.lt
        have VR : Hid (Blk V rb #[.int .i64 0, .int .i64 0, .nilFunc] 62) := Brb.out.below hbV Brb.out.lt
        have o0 : V.cell? ⟨ob, 0, none⟩ = some (.int .i64 k) := hOb.cell 0
        have o1 : V.cell? ⟨ob, 1, none⟩ = some (.string ⟨n.toArray⟩) := hOb.cell 1
        have o2 : V.cell? ⟨ob, 2, none⟩ = some (.int .i64 A) := hOb.cell 2
        have o3 : V.cell? ⟨ob, 3, none⟩ = some (.int .i64 B) := hOb.cell 3
        clear hbV hCV hOb
        go_wp2_with fail
        refine Calls.mono (refused_any 101 V) ?_
        rintro e9 w1 ⟨rfl, hb1⟩
        have hR1 : Blk w1 rb #[.int .i64 0, .int .i64 0, .nilFunc] 62 := VR.out.below hb1 VR.out.lt
        have r0 : w1.cell? ⟨rb, 0, none⟩ = some (.int .i64 0) := hR1.cell 0
        have q0 : w1.frozen? ⟨rb, 0, none⟩ = false := hR1.frozen 0
        have r1 : w1.cell? ⟨rb, 1, none⟩ = some (.int .i64 0) := hR1.cell 1
        have q1 : w1.frozen? ⟨rb, 1, none⟩ = false := hR1.frozen 1
        have r2 : w1.cell? ⟨rb, 2, none⟩ = some (.nilFunc) := hR1.cell 2
        have q2 : w1.frozen? ⟨rb, 2, none⟩ = false := hR1.frozen 2
        obtain ⟨Z, hZ⟩ : ∃ Z, Z = (((w1.setCell ⟨rb, 0, none⟩ (.int .i64 0)).setCell ⟨rb, 1, none⟩ (.int .i64 101)).setCell ⟨rb, 2, none⟩ (.nilFunc)) := ⟨_, rfl⟩
        have HZ : Hid (Blk Z rb #[.int .i64 0, .int .i64 101, .nilFunc] 62) := show Blk Z rb #[.int .i64 0, .int .i64 101, .nilFunc] 62 from by rw [hZ]; exact (Blk.set (Blk.set (Blk.set hR1 0 (.int .i64 0)) 1 (.int .i64 101)) 2 (.nilFunc))
        have HCZ : Hid (Chg (fun b => b = rb) w1 Z) := show Chg (fun b => b = rb) w1 Z from by rw [hZ]; exact (((setCell_chg _ _ _ _).trans (setCell_chg _ _ _ _) (fun _ _ e => e)).trans (setCell_chg _ _ _ _) (fun _ _ e => e))
        have HBZ : Hid (Below w.heap.size w Z) := show Below w.heap.size w Z from by have h := HWV.out.trans (hb1.mono HWV.out.size); exact h.trans (HCZ.out.below h.size (fun k e => by have := HLB.out.2; omega))
        clear hb1 hR1
        go_wp2_with fail
        rw [← hZ]
        refine bodyPost_ret (results_cell_row Try.results22 _ _ rb 62 _ (0, 0) _ rfl HZ.out Try.underlying62 rfl (by kernel_rfl)) rfl ?_
        rw [HO.out]
        exact ⟨.nilFunc, rfl, rfl, HBZ.out, fun h => absurd h (show ¬ (101 : Int) = 0 by decide)⟩
      · have HO : Hid (mapO k A B q n L = ctO k A B q c) := show _ = _ from by unfold mapO; rw [if_neg HGF.out, hl]; simp only [if_neg hk]
        have HHO : Hid (hbOf k n L = some hb) := show _ = _ from by unfold hbOf; rw [if_neg hk, hl]; exact HHB.out
        clear h hl HGF
        clear hn
        have hk1 : (k == 1) = false := by simpa using hk
        have HK : Hid (¬ k = 1) := hk
        clear hk
        go_enter Try.func22, Try.ntmps22
        go_upto_region 1 with fail
        rw [← hX, ← hrb, ← hob]
        clear hX hob hrb
        have o0 : X.cell? ⟨ob, 0, none⟩ = some (.int .i64 k) := Bob.out.cell 0
        have o1 : X.cell? ⟨ob, 1, none⟩ = some (.string ⟨n.toArray⟩) := Bob.out.cell 1
        have o2 : X.cell? ⟨ob, 2, none⟩ = some (.int .i64 A) := Bob.out.cell 2
        have o3 : X.cell? ⟨ob, 3, none⟩ = some (.int .i64 B) := Bob.out.cell 3
        go_wp2_with fail
        refine Calls.mono HRI.out ?_
        rintro e9 X1 ⟨rfl, hb9⟩
        have B9o : Hid (Blk X1 ob #[.int .i64 k, .string ⟨n.toArray⟩, .int .i64 A, .int .i64 B] 31) := Bob.out.below hb9 Bob.out.lt
        have B9r : Hid (Blk X1 rb #[.int .i64 0, .int .i64 0, .nilFunc] 62) := Brb.out.below hb9 Brb.out.lt
        have H9 : Hid (Below w.heap.size w X1) := HBX.out.trans (hb9.mono HBX.out.size)
        have HAM : Hid (AM ab mb L X1) := HAM0.out.more hb9
        clear hb9 Bob Brb HBX HAM0 HRI o0 o1 o2 o3
        have Bob := B9o
        have Brb := B9r
        have HBX := H9
        clear B9o B9r H9
        go_wp2_with fail
        rename_i K hK
        try rw [show ∀ a : Act, a.put none undef = a from fun _ => rfl]
        refine wp_region_mix (fun wq => Blk wq ab #[.map (some mb)] 59 ∧ Blk wq ob #[.int .i64 k, .string ⟨n.toArray⟩, .int .i64 A, .int .i64 B] 31 ∧ Gm.HMap MC wq mb L) (fun i => i == 10 || i == 11 || i == 99) 99 (by kernel_rfl) rfl (by kernel_rfl) (by kernel_rfl) (by kernel_rfl) ?_
        refine withFrP (N := 45) rfl ?_
        intro f0 F0 hff
        have ee0 : f0 0 = Value.pointer (some ⟨ab, 0, none⟩) := hff 0
        have ee4 : f0 4 = Value.pointer (some ⟨ob, 0, none⟩) := hff 4
        clear hff
        have HCC : (fun wq => Blk wq ab #[.map (some mb)] 59 ∧ Blk wq ob #[.int .i64 k, .string ⟨n.toArray⟩, .int .i64 A, .int .i64 B] 31 ∧ Gm.HMap MC wq mb L) (({ X1 with drawn := X1.drawn + 1 } : World)) := ⟨HAM.out.box, Bob.out, HAM.out.map⟩
        refine lyp F0 rfl HCC rfl (by omega) (wanted_none rfl) (v := Value.pointer (some ⟨ab, 0, none⟩)) (fun wr hwr => by simp only [execOp, (F0.eval 0 (by omega)).trans (show _ = Value.pointer (some ⟨ab, 0, none⟩) from by simp [upd, ee0, ee4])]; first | rfl | simp [go_sem]) fun F1 => ?_
        refine lyp F1 rfl HCC rfl (by omega) (wanted_none rfl) (v := Value.pointer (some ⟨ab, 0, none⟩)) (fun wr hwr => by simp only [execOp, (F1.eval 14 (by omega)).trans (show _ = Value.pointer (some ⟨ab, 0, none⟩) from by simp [upd, ee0, ee4])]; simp [go_sem]) fun F2 => ?_
        refine lyp F2 rfl HCC rfl (by omega) (wanted_none rfl) (v := Value.pointer (some ⟨ab, 0, none⟩)) (fun wr hwr => by simp only [execOp, (F2.eval 15 (by omega)).trans (show _ = Value.pointer (some ⟨ab, 0, none⟩) from by simp [upd, ee0, ee4])]; simp [go_sem]) fun F3 => ?_
        refine lyp F3 rfl HCC rfl (by omega) (wanted_none rfl) (v := Value.map (some mb)) (fun wr hwr => by simp only [execOp, (F3.eval 16 (by omega)).trans (show _ = Value.pointer (some ⟨ab, 0, none⟩) from by simp [upd, ee0, ee4])]; simp [go_sem, show wr.cell? ⟨ab, 0, none⟩ = some (.map (some mb)) from hwr.1.cell 0]) fun F4 => ?_
        refine lyp F4 rfl HCC rfl (by omega) (wanted_none rfl) (v := Value.pointer (some ⟨ob, 1, none⟩)) (fun wr hwr => by simp only [execOp, (F4.eval 4 (by omega)).trans (show _ = Value.pointer (some ⟨ob, 0, none⟩) from by simp [upd, ee0, ee4])]; simp [go_sem]) fun F5 => ?_
        refine lyp F5 rfl HCC rfl (by omega) (wanted_none rfl) (v := Value.string ⟨n.toArray⟩) (fun wr hwr => by simp only [execOp, (F5.eval 18 (by omega)).trans (show _ = Value.pointer (some ⟨ob, 1, none⟩) from by simp [upd, ee0, ee4])]; simp [go_sem, show wr.cell? ⟨ob, 1, none⟩ = some (.string ⟨n.toArray⟩) from hwr.2.1.cell 1]) fun F6 => ?_
        refine lyp F6 rfl HCC rfl (by omega) (wanted_none rfl) (v := Value.tuple #[.agg #[.string ⟨c.nm.toArray⟩, .int .i64 c.lim, .int .i64 c.val, .int .i64 c.held, .map (some hb)], .bool true]) (fun wr hwr => by simp only [execOp, (F6.eval 17 (by omega)).trans (show _ = Value.map (some mb) from by simp [upd, ee0, ee4]), (F6.eval 19 (by omega)).trans (show _ = Value.string ⟨n.toArray⟩ from by simp [upd, ee0, ee4])]; simp only [Sem.run_bind, Sem.run_pure, Result.andThen_ok, HLK.out wr hwr.2.2]; try rfl) fun F7 => ?_
        refine lyp F7 rfl HCC rfl (by omega) (wanted_none rfl) (v := Value.tuple #[.agg #[.string ⟨c.nm.toArray⟩, .int .i64 c.lim, .int .i64 c.val, .int .i64 c.held, .map (some hb)], .bool true]) (fun wr hwr => by simp only [execOp, (F7.eval 20 (by omega)).trans (show _ = Value.tuple #[.agg #[.string ⟨c.nm.toArray⟩, .int .i64 c.lim, .int .i64 c.val, .int .i64 c.held, .map (some hb)], .bool true] from by simp [upd, ee0, ee4])]; first | rfl | simp [go_sem]) fun F8 => ?_
        refine lyp F8 rfl HCC rfl (by omega) (wanted_none rfl) (v := Value.agg #[.string ⟨c.nm.toArray⟩, .int .i64 c.lim, .int .i64 c.val, .int .i64 c.held, .map (some hb)]) (fun wr hwr => by simp only [execOp, (F8.eval 13 (by omega)).trans (show _ = Value.tuple #[.agg #[.string ⟨c.nm.toArray⟩, .int .i64 c.lim, .int .i64 c.val, .int .i64 c.held, .map (some hb)], .bool true] from by simp [upd, ee0, ee4])]; simp [go_sem]) fun F9 => ?_
        refine lyp F9 rfl HCC rfl (by omega) (wanted_none rfl) (v := Value.bool true) (fun wr hwr => by simp only [execOp, (F9.eval 13 (by omega)).trans (show _ = Value.tuple #[.agg #[.string ⟨c.nm.toArray⟩, .int .i64 c.lim, .int .i64 c.val, .int .i64 c.held, .map (some hb)], .bool true] from by simp [upd, ee0, ee4])]; simp [go_sem]) fun F10 => ?_
        refine lep F10 rfl HCC rfl (by omega) (wanted_none rfl) (v := Value.pointer (some ⟨X1.heap.size, 0, none⟩)) (w1 := (({ X1 with drawn := X1.drawn + 1 } : World)).alloc (.cells #[.string ⟨#[]⟩, .int .i64 0, .int .i64 0, .int .i64 0, .map none] 67)) (by simp only [execOp]; simp [go_sem, zero67]) fun F11 => ?_
        have hbz : Below X1.heap.size X1 ((({ X1 with drawn := X1.drawn + 1 } : World)).alloc (.cells #[.string ⟨#[]⟩, .int .i64 0, .int .i64 0, .int .i64 0, .map none] 67)) := (Below.drew (Below.refl X1.heap.size X1)).alloc (Nat.le_refl _) _
        have HC2 : (fun wq => Blk wq ab #[.map (some mb)] 59 ∧ Blk wq ob #[.int .i64 k, .string ⟨n.toArray⟩, .int .i64 A, .int .i64 B] 31 ∧ Gm.HMap MC wq mb L) ((({ X1 with drawn := X1.drawn + 1 } : World)).alloc (.cells #[.string ⟨#[]⟩, .int .i64 0, .int .i64 0, .int .i64 0, .map none] 67)) := ⟨HAM.out.box.below hbz HAM.out.box.lt, Bob.out.below hbz Bob.out.lt, HAM.out.map.same (hbz.block _ HAM.out.map.lt)⟩
        have hZ0 : Blk ((({ X1 with drawn := X1.drawn + 1 } : World)).alloc (.cells #[.string ⟨#[]⟩, .int .i64 0, .int .i64 0, .int .i64 0, .map none] 67)) X1.heap.size #[.string ⟨#[]⟩, .int .i64 0, .int .i64 0, .int .i64 0, .map none] 67 := heap_alloc_new (({ X1 with drawn := X1.drawn + 1 } : World)) _
        obtain ⟨V, hV⟩ : ∃ V, V = World.setRow ((({ X1 with drawn := X1.drawn + 1 } : World)).alloc (.cells #[.string ⟨#[]⟩, .int .i64 0, .int .i64 0, .int .i64 0, .map none] 67)) X1.heap.size #[.string ⟨c.nm.toArray⟩, .int .i64 c.lim, .int .i64 c.val, .int .i64 c.held, .map (some hb)] := ⟨_, rfl⟩
        refine lst rfl HC2 rfl (wanted_none rfl) (w1 := V) (by rw [hV]; exact store_row rfl ((F11.eval 7 (by omega)).trans (show _ = Value.pointer (some ⟨X1.heap.size, 0, none⟩) from by simp [upd, ee0, ee4])) ((F11.eval 21 (by omega)).trans (show _ = Value.agg #[.string ⟨c.nm.toArray⟩, .int .i64 c.lim, .int .i64 c.val, .int .i64 c.held, .map (some hb)] from by simp [upd, ee0, ee4])) hZ0 (by kernel_rfl) rfl (by simp [Value.oneCell'])) ?_
        have hbV : Below X1.heap.size X1 V := by rw [hV]; exact hbz.trans (setRow_chg.below hbz.size (fun k e => Nat.le_of_eq e.symm))
        have hCV : Blk V X1.heap.size #[.string ⟨c.nm.toArray⟩, .int .i64 c.lim, .int .i64 c.val, .int .i64 c.held, .map (some hb)] 67 := by rw [hV]; exact setRow_blk hZ0
        have HC3 : (fun wq => Blk wq ab #[.map (some mb)] 59 ∧ Blk wq ob #[.int .i64 k, .string ⟨n.toArray⟩, .int .i64 A, .int .i64 B] 31 ∧ Gm.HMap MC wq mb L) V := ⟨HAM.out.box.below hbV HAM.out.box.lt, Bob.out.below hbV Bob.out.lt, HAM.out.map.same (hbV.block _ HAM.out.map.lt)⟩
        refine lyp F11 rfl HC3 rfl (by omega) (wanted_none rfl) (v := Value.bool true) (fun wr hwr => by simp only [execOp, (F11.eval 22 (by omega)).trans (show _ = Value.bool true from by simp [upd, ee0, ee4])]; first | rfl | simp [go_sem]) fun F12 => ?_
        refine ⟨fun _ => HC3, ?_⟩
        refine hK _ _ ?_
        clear F0 F1 F2 F3 F4 F5 F6 F7 F8 F9 F10 F11 F12 ee0 ee4 HCC HC2 HC3 hbz hZ0 hV
        simp only [Act.put, List.setIfInBounds_toArray, List.set_cons_succ, List.set_cons_zero]
        have HBV : Hid (Below X1.heap.size X1 V) := hbV
        have HWV : Hid (Below w.heap.size w V) := HBX.out.trans (hbV.mono HBX.out.size)
        have HCV : Hid (Blk V X1.heap.size #[.string ⟨c.nm.toArray⟩, .int .i64 c.lim, .int .i64 c.val, .int .i64 c.held, .map (some hb)] 67) := hCV
        have hOb : Blk V ob #[.int .i64 k, .string ⟨n.toArray⟩, .int .i64 A, .int .i64 B] 31 := Bob.out.below hbV Bob.out.lt
        have VR : Hid (Blk V rb #[.int .i64 0, .int .i64 0, .nilFunc] 62) := Brb.out.below hbV Brb.out.lt
        have o0 : V.cell? ⟨ob, 0, none⟩ = some (.int .i64 k) := hOb.cell 0
        have o1 : V.cell? ⟨ob, 1, none⟩ = some (.string ⟨n.toArray⟩) := hOb.cell 1
        have o2 : V.cell? ⟨ob, 2, none⟩ = some (.int .i64 A) := hOb.cell 2
        have o3 : V.cell? ⟨ob, 3, none⟩ = some (.int .i64 B) := hOb.cell 3
        clear hbV hCV hOb
        have HIV : Hid (HI V hb c.H) := HIW.out.same (HWV.out.block _ HIW.out.lt)
        have HM : Hid (Calls Try.prog 33 #[.agg #[.string ⟨c.nm.toArray⟩, .int .i64 c.lim, .int .i64 c.val, .int .i64 c.held, .map (some hb)], .agg #[.int .i64 k, .string ⟨n.toArray⟩, .int .i64 A, .int .i64 B], .int .i64 q] V (PlPost (some hb) n (ctO k A B q c) V)) := show Calls Try.prog 33 #[.agg #[.string ⟨c.nm.toArray⟩, .int .i64 c.lim, .int .i64 c.val, .int .i64 c.held, .map (some hb)], .agg #[.int .i64 k, .string ⟨n.toArray⟩, .int .i64 A, .int .i64 B], .int .i64 q] V (PlPost (some hb) n (ctO k A B q c) V) from by rw [show PlPost (some hb) n (ctO k A B q c) V = PlPost (some hb) c.nm (ctO k A B q c) V from by rw [HNM.out]]; have hh := cplan_any k A B q n V (HIV.out) HHB.out HOK.out HOB.out; simp only [ctV, Ct.cs, HHB.out] at hh; exact hh
        have c0 : V.cell? ⟨X1.heap.size, 0, none⟩ = some (.string ⟨c.nm.toArray⟩) := HCV.out.cell 0
        have c1 : V.cell? ⟨X1.heap.size, 1, none⟩ = some (.int .i64 c.lim) := HCV.out.cell 1
        have c2 : V.cell? ⟨X1.heap.size, 2, none⟩ = some (.int .i64 c.val) := HCV.out.cell 2
        have c3 : V.cell? ⟨X1.heap.size, 3, none⟩ = some (.int .i64 c.held) := HCV.out.cell 3
        have c4 : V.cell? ⟨X1.heap.size, 4, none⟩ = some (.map (some hb)) := HCV.out.cell 4
        rw [HO.out]
        rw [HHO.out]
        generalize ctO k A B q c = R at *
        go_wp2_with fail
        refine Calls.mono HM.out ?_
        rintro e9 w1 ⟨fv, rfl, hone, hb1, hdo⟩
        have hst : ∀ (A : Addr) (m : Mode) (W : World), (store A fv m).run Try.prog W = stored Try.prog W A fv m := fun A m W => run_store _ _ _ _ _ hone
        have hR1 : Blk w1 rb #[.int .i64 0, .int .i64 0, .nilFunc] 62 := VR.out.below hb1 VR.out.lt
        have HDO : Hid _ := hdo
        have HXS : Hid (w.heap.size ≤ V.heap.size) := HWV.out.size
        have HR1 : Hid (Blk w1 rb #[.int .i64 0, .int .i64 0, .nilFunc] 62) := hR1
        have HI1 : Hid (HI w1 hb c.H) := HIV.out.same (hb1.block _ HIV.out.lt)
        have r0 : w1.cell? ⟨rb, 0, none⟩ = some (.int .i64 0) := hR1.cell 0
        have q0 : w1.frozen? ⟨rb, 0, none⟩ = false := hR1.frozen 0
        have r1 : w1.cell? ⟨rb, 1, none⟩ = some (.int .i64 0) := hR1.cell 1
        have q1 : w1.frozen? ⟨rb, 1, none⟩ = false := hR1.frozen 1
        have r2 : w1.cell? ⟨rb, 2, none⟩ = some (.nilFunc) := hR1.cell 2
        have q2 : w1.frozen? ⟨rb, 2, none⟩ = false := hR1.frozen 2
        obtain ⟨Z, hZ⟩ : ∃ Z, Z = (((w1.setCell ⟨rb, 0, none⟩ (.int .i64 R.1.1)).setCell ⟨rb, 1, none⟩ (.int .i64 R.1.2)).setCell ⟨rb, 2, none⟩ (fv)) := ⟨_, rfl⟩
        have HZ : Hid (Blk Z rb #[.int .i64 R.1.1, .int .i64 R.1.2, fv] 62) := show Blk Z rb #[.int .i64 R.1.1, .int .i64 R.1.2, fv] 62 from by rw [hZ]; exact (Blk.set (Blk.set (Blk.set hR1 0 (.int .i64 R.1.1)) 1 (.int .i64 R.1.2)) 2 (fv))
        have HCZ : Hid (Chg (fun b => b = rb) w1 Z) := show Chg (fun b => b = rb) w1 Z from by rw [hZ]; exact (((setCell_chg _ _ _ _).trans (setCell_chg _ _ _ _) (fun _ _ e => e)).trans (setCell_chg _ _ _ _) (fun _ _ e => e))
        have HBZ : Hid (Below w.heap.size w Z) := show Below w.heap.size w Z from by have h := HWV.out.trans (hb1.mono HWV.out.size); exact h.trans (HCZ.out.below h.size (fun k e => by have := HLB.out.2; omega))
        clear hb1 hR1 hdo o0 o1 o2 o3
        go_wp2_with fail
        rw [← hZ]
        refine bodyPost_ret (results_cell_row Try.results22 _ _ rb 62 _ (0, 0) _ rfl HZ.out Try.underlying62 rfl (by kernel_rfl)) rfl ?_
        refine ⟨fv, rfl, hone, HBZ.out, fun hz => ?_⟩
        exact (HDO.out hz).later HCZ.out HXS.out (fun k hk e => by have := VR.out.lt; omega) (fun k hk => by cases hk; exact ⟨(HI1.out).lt, fun e => HI1.out.ne_b HR1.out e.symm⟩)
end Go.Proofs.Ytaiknlnjahjeiaa
