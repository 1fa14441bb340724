import Derived.Test.YtaiknlnjahjeiaaCr
import Derived.Deep.Cut
namespace Go.Proofs.Ytaiknlnjahjeiaa
open Go.RowKit Go.PlainAid Go.MapKept
set_option linter.unusedVariables false
set_option linter.unusedSimpArgs false
def createO (A B : Int) : Out := if A < B then ((0, 61), (0, 0, 0, [])) else ((0, 0), (A, B, 0, []))
set_option maxRecDepth 100000 in
set_option maxHeartbeats 3200000 in
theorem create_any (k A B : Int) (n : List UInt8) (w : World) (hn : n.length ≤ 140737488355328) :
    Calls Try.prog 32 #[.agg #[.int .i64 k, .string ⟨n.toArray⟩, .int .i64 A, .int .i64 B]] w (PlPost none n (createO A B) w) := by
  obtain ⟨ob, hob⟩ : ∃ b, b = w.heap.size := ⟨_, rfl⟩
  obtain ⟨rb, hrb⟩ : ∃ b, b = w.heap.size + 1 := ⟨_, rfl⟩
  obtain ⟨X, hX⟩ : ∃ X, X = ((w.alloc (.cells #[.int .i64 k, .string ⟨n.toArray⟩, .int .i64 A, .int .i64 B] 31)).alloc (.cells #[.int .i64 0, .int .i64 0, .nilFunc] 62)) := ⟨_, rfl⟩
  have hbX : Below w.heap.size w X := by rw [hX]; exact (((Below.refl _ _).alloc (by first | exact Nat.le_refl _ | (simp; try omega)) _).alloc (by first | exact Nat.le_refl _ | (simp; try omega)) _)
  have Bob : Hid (Blk X ob #[.int .i64 k, .string ⟨n.toArray⟩, .int .i64 A, .int .i64 B] 31) := show Blk X ob #[.int .i64 k, .string ⟨n.toArray⟩, .int .i64 A, .int .i64 B] 31 from by rw [hX]; exact (blk_alloc (show Blk (w.alloc (.cells #[.int .i64 k, .string ⟨n.toArray⟩, .int .i64 A, .int .i64 B] 31)) ob #[.int .i64 k, .string ⟨n.toArray⟩, .int .i64 A, .int .i64 B] 31 from by rw [hob]; have h := heap_alloc_new w (.cells #[.int .i64 k, .string ⟨n.toArray⟩, .int .i64 A, .int .i64 B] 31); exact h) _)
  have HLob : Hid (w.heap.size ≤ ob) := show w.heap.size ≤ ob from by omega
  have Brb : Hid (Blk X rb #[.int .i64 0, .int .i64 0, .nilFunc] 62) := show Blk X rb #[.int .i64 0, .int .i64 0, .nilFunc] 62 from by rw [hX]; exact (show Blk ((w.alloc (.cells #[.int .i64 k, .string ⟨n.toArray⟩, .int .i64 A, .int .i64 B] 31)).alloc (.cells #[.int .i64 0, .int .i64 0, .nilFunc] 62)) rb #[.int .i64 0, .int .i64 0, .nilFunc] 62 from by rw [hrb]; have h := heap_alloc_new (w.alloc (.cells #[.int .i64 k, .string ⟨n.toArray⟩, .int .i64 A, .int .i64 B] 31)) (.cells #[.int .i64 0, .int .i64 0, .nilFunc] 62); simp only [World.size_alloc] at h; exact h)
  have HLrb : Hid (w.heap.size ≤ rb) := show w.heap.size ≤ rb from by omega
  have HBX : Hid (Below w.heap.size w X) := hbX
  have HLB : Hid (w.heap.size ≤ ob ∧ w.heap.size ≤ rb) := ⟨by omega, by omega⟩
  clear hbX
  by_cases hq : A < B
  · have HO : Hid (createO A B = ((0, 61), (0, 0, 0, []))) := show _ = _ from by unfold createO; rw [if_pos hq]
    clear hn
    go_enter Try.func32, Try.ntmps32
    go_upto_region 1 with fail
    rw [← hX, ← hrb, ← hob]
    clear hX hob hrb
    have o0 : X.cell? ⟨ob, 0, none⟩ = some (.int .i64 k) := Bob.out.cell 0
    have o1 : X.cell? ⟨ob, 1, none⟩ = some (.string ⟨n.toArray⟩) := Bob.out.cell 1
    have o2 : X.cell? ⟨ob, 2, none⟩ = some (.int .i64 A) := Bob.out.cell 2
    have o3 : X.cell? ⟨ob, 3, none⟩ = some (.int .i64 B) := Bob.out.cell 3
    go_wp2_with fail
    refine Calls.mono (refused_any 61 X) ?_
    rintro e9 w1 ⟨rfl, hb1⟩
    have hR1 : Blk w1 rb #[.int .i64 0, .int .i64 0, .nilFunc] 62 := Brb.out.below hb1 Brb.out.lt
    have r0 : w1.cell? ⟨rb, 0, none⟩ = some (.int .i64 0) := hR1.cell 0
    have q0 : w1.frozen? ⟨rb, 0, none⟩ = false := hR1.frozen 0
    have r1 : w1.cell? ⟨rb, 1, none⟩ = some (.int .i64 0) := hR1.cell 1
    have q1 : w1.frozen? ⟨rb, 1, none⟩ = false := hR1.frozen 1
    have r2 : w1.cell? ⟨rb, 2, none⟩ = some (.nilFunc) := hR1.cell 2
    have q2 : w1.frozen? ⟨rb, 2, none⟩ = false := hR1.frozen 2
    obtain ⟨Z, hZ⟩ : ∃ Z, Z = (((w1.setCell ⟨rb, 0, none⟩ (.int .i64 0)).setCell ⟨rb, 1, none⟩ (.int .i64 61)).setCell ⟨rb, 2, none⟩ (.nilFunc)) := ⟨_, rfl⟩
    have HZ : Hid (Blk Z rb #[.int .i64 0, .int .i64 61, .nilFunc] 62) := show Blk Z rb #[.int .i64 0, .int .i64 61, .nilFunc] 62 from by rw [hZ]; exact (Blk.set (Blk.set (Blk.set hR1 0 (.int .i64 0)) 1 (.int .i64 61)) 2 (.nilFunc))
    have HCZ : Hid (Chg (fun b => b = rb) w1 Z) := show Chg (fun b => b = rb) w1 Z from by rw [hZ]; exact (((setCell_chg _ _ _ _).trans (setCell_chg _ _ _ _) (fun _ _ e => e)).trans (setCell_chg _ _ _ _) (fun _ _ e => e))
    have HBZ : Hid (Below w.heap.size w Z) := show Below w.heap.size w Z from by have h := HBX.out.trans (hb1.mono HBX.out.size); exact h.trans (HCZ.out.below h.size (fun k e => by have := HLB.out.2; omega))
    clear hb1 hR1
    go_wp2_with fail
    rw [← hZ]
    refine bodyPost_ret (results_cell_row Try.results32 _ _ rb 62 _ (0, 0) _ rfl HZ.out Try.underlying62 rfl (by kernel_rfl)) rfl ?_
    rw [HO.out]
    exact ⟨.nilFunc, rfl, rfl, HBZ.out, fun h => absurd h (show ¬ (61 : Int) = 0 by decide)⟩
  · have HO : Hid (createO A B = ((0, 0), (A, B, 0, []))) := show _ = _ from by unfold createO; rw [if_neg hq]
    have HN : Hid (n.length ≤ 140737488355328) := hn
    clear hn
    go_enter Try.func32, Try.ntmps32
    go_upto_region 1 with fail
    rw [← hX, ← hrb, ← hob]
    clear hX hob hrb
    have o0 : X.cell? ⟨ob, 0, none⟩ = some (.int .i64 k) := Bob.out.cell 0
    have o1 : X.cell? ⟨ob, 1, none⟩ = some (.string ⟨n.toArray⟩) := Bob.out.cell 1
    have o2 : X.cell? ⟨ob, 2, none⟩ = some (.int .i64 A) := Bob.out.cell 2
    have o3 : X.cell? ⟨ob, 3, none⟩ = some (.int .i64 B) := Bob.out.cell 3
    have r0 : X.cell? ⟨rb, 0, none⟩ = some (.int .i64 0) := Brb.out.cell 0
    have q0 : X.frozen? ⟨rb, 0, none⟩ = false := Brb.out.frozen 0
    have r1 : X.cell? ⟨rb, 1, none⟩ = some (.int .i64 0) := Brb.out.cell 1
    have q1 : X.frozen? ⟨rb, 1, none⟩ = false := Brb.out.frozen 1
    have r2 : X.cell? ⟨rb, 2, none⟩ = some (.nilFunc) := Brb.out.cell 2
    have q2 : X.frozen? ⟨rb, 2, none⟩ = false := Brb.out.frozen 2
    obtain ⟨Z, hZ⟩ : ∃ Z, Z = (((X.setCell ⟨rb, 0, none⟩ (.int .i64 0)).setCell ⟨rb, 1, none⟩ (.int .i64 0)).setCell ⟨rb, 2, none⟩ (.func (.func 47) #[] #[.pointer (some ⟨ob, 0, none⟩)])) := ⟨_, rfl⟩
    have HZ : Hid (Blk Z rb #[.int .i64 0, .int .i64 0, .func (.func 47) #[] #[.pointer (some ⟨ob, 0, none⟩)]] 62) := show Blk Z rb #[.int .i64 0, .int .i64 0, .func (.func 47) #[] #[.pointer (some ⟨ob, 0, none⟩)]] 62 from by rw [hZ]; exact (Blk.set (Blk.set (Blk.set Brb.out 0 (.int .i64 0)) 1 (.int .i64 0)) 2 (.func (.func 47) #[] #[.pointer (some ⟨ob, 0, none⟩)]))
    have HCZ : Hid (Chg (fun b => b = rb) X Z) := show Chg (fun b => b = rb) X Z from by rw [hZ]; exact (((setCell_chg _ _ _ _).trans (setCell_chg _ _ _ _) (fun _ _ e => e)).trans (setCell_chg _ _ _ _) (fun _ _ e => e))
    have HBZ : Hid (Below w.heap.size w Z) := show Below w.heap.size w Z from by have h := HBX.out; exact h.trans (HCZ.out.below h.size (fun k e => by have := HLB.out.2; omega))
    have hmf' := hmf
    go_wp2_with fail
    rw [← hZ]
    refine bodyPost_ret (results_cell_row Try.results32 _ _ rb 62 _ (0, 0) _ rfl HZ.out Try.underlying62 rfl (by kernel_rfl)) rfl ?_
    rw [HO.out]
    refine ⟨_, rfl, rfl, HBZ.out, fun _ => ⟨47, _, rfl, fun args w => by simp [go_sem], fun W hs => ?_⟩⟩
    have kob : Blk Z ob #[.int .i64 k, .string ⟨n.toArray⟩, .int .i64 A, .int .i64 B] 31 := HCZ.out.blk Bob.out (Blk.ne_t Bob.out Brb.out (by decide))
    refine (create1_any k A B n W (hs.blk kob HLob.out) HN.out).mono ?_
    rintro e W' ⟨hb', a1, a2, a3, a4⟩
    exact ⟨hb', a1, a2, Or.inr ⟨rfl, a3⟩, Chg.ofBelow _ a4⟩
/-- A map in memory. -/
structure AM (ab mb : Nat) (L : List (List UInt8 × Ct)) (w : World) : Prop where
  box : Blk w ab #[.map (some mb)] 59
  map : Gm.HMap MC w mb L
  ct : ∀ p ∈ L, p.2.nm = p.1 ∧ p.2.Ok ∧ ∃ hb, p.2.hb = some hb ∧ HI w hb p.2.H ∧ hb ≠ mb
  dj : L.Pairwise (fun p q => p.2.hb ≠ q.2.hb)
  kd : L.Pairwise (fun p q => p.1 ≠ q.1)
section
variable {ab mb : Nat} {L : List (List UInt8 × Ct)} {w w' : World}
theorem AM.more (h : AM ab mb L w) (hb : Below w.heap.size w w') : AM ab mb L w' :=
  ⟨h.box.below hb h.box.lt, h.map.same (hb.block _ h.map.lt), fun p hp => by
    obtain ⟨a, b, x, c, d, e⟩ := h.ct p hp
    exact ⟨a, b, x, c, d.same (hb.block _ d.lt), e⟩, h.dj, h.kd⟩
theorem look_mem {n : List UInt8} {c : Ct} (h : Gm.look n L = some c) : (n, c) ∈ L := by
  unfold Gm.look at h
  cases hf : L.find? (fun p => decide (n = p.1)) with
  | none => rw [hf] at h; cases h
  | some p =>
    rw [hf] at h
    have h1 := List.mem_of_find?_eq_some hf
    have h2 := List.find?_some hf
    simp at h h2
    rw [← h, h2]
    exact h1
end
/-- What an op comes to. -/
def mapO (k A B q : Int) (n : List UInt8) (L : List (List UInt8 × Ct)) : Out :=
  if (nameB n && opB k A B) = false then ((0, 1), (0, 0, 0, [])) else match Gm.look n L with
  | some c => if k = 1 then ((0, 101), (0, 0, 0, [])) else ctO k A B q c
  | none => if k = 1 then createO A B else ((0, 100), (0, 0, 0, []))
def hbOf (k : Int) (n : List UInt8) (L : List (List UInt8 × Ct)) : Option Nat := if k = 1 then none else ((Gm.look n L).getD zedC).hb
theorem zero67 (w : World) : (zeroValue 67).run Try.prog w = .ok (.agg #[.string ⟨#[]⟩, .int .i64 0, .int .i64 0, .int .i64 0, .map none]) w := by kernel_rfl
end Go.Proofs.Ytaiknlnjahjeiaa
