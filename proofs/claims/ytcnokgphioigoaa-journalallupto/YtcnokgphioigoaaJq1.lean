import Derived.Test.YtcnokgphioigoaaJE
import Derived.Test.YtcnokgphioigoaaJn42
namespace Go.Proofs.Ytcnokgphioigoaa
open Go.RowKit Go.PlainAid
set_option linter.unusedVariables false
set_option linter.unusedSimpArgs false
section
variable {jb : Nat}
set_option maxRecDepth 100000
set_option maxHeartbeats 1600000 in
theorem append_deadG {vo : Option Addr} {vn vc : Nat} (w : World) (h : Blk w jb deadA 79) : Calls Try.prog 16 #[.pointer (some ⟨jb, 0, none⟩), .slice vo vn vc] w fun e w' => e = .returned (.int .i64 200) ∧ Blk w' jb deadA 79 ∧ Chg (fun k => k = jb) w w' := by
  have hmf : ∀ (fn : Fn) (first cap : Array Value) (w : World), (Instr.makeFunc fn first cap).run Try.prog w = .ok (.func fn first cap) w := fun _ _ _ _ => rfl
  obtain ⟨H, hH⟩ : ∃ H, H = w.heap.size := ⟨_, rfl⟩
  obtain ⟨w1, hw1⟩ : ∃ w1, w1 = (w.alloc (.cells #[.pointer (some ⟨jb, 0, none⟩)] 31)).alloc (.cells #[.int .i64 0] 25) := ⟨_, rfl⟩
  have hb1 : Below H w w1 := by rw [hw1, hH]; exact ((Below.refl _ _).alloc (Nat.le_refl _) _).alloc (by rw [World.size_alloc]; omega) _
  have hB0 : Blk w1 H #[.pointer (some ⟨jb, 0, none⟩)] 31 := by rw [hw1, hH]; exact heap_alloc2_old w _ _
  have hB1 : Blk w1 (H + 1) #[.int .i64 0] 25 := by rw [hw1, hH]; exact heap_alloc2_new w _ _
  have hlt : jb < H := by rw [hH]; exact h.lt
  have hJ : Blk w1 jb deadA 79 := h.below hb1 hlt
  have c4 : w1.cell? ⟨jb, 4, none⟩ = some (.bool true) := hJ.cell 4
  have b0 : w1.cell? ⟨H, 0, none⟩ = some (.pointer (some ⟨jb, 0, none⟩)) := hB0.cell 0
  have z1 : w1.cell? ⟨H + 1, 0, none⟩ = some (.int .i64 0) := hB1.cell 0
  have f1 : w1.frozen? ⟨H + 1, 0, none⟩ = false := hB1.frozen 0
  have HF : Hid (Blk (w1.setCell ⟨H + 1, 0, none⟩ (.int .i64 200)) jb deadA 79 ∧ Below H w (w1.setCell ⟨H + 1, 0, none⟩ (.int .i64 200)) ∧ (w1.setCell ⟨H + 1, 0, none⟩ (.int .i64 200)).cell? ⟨H + 1, 0, none⟩ = some (.int .i64 200) ∧ (w1.setCell ⟨H + 1, 0, none⟩ (.int .i64 200)).cell? ⟨H, 0, none⟩ = some (.pointer (some ⟨jb, 0, none⟩)) ∧ jb < H ∧ H = w.heap.size) := by
    refine ⟨(setCell_chg _ _ _ _).blk hJ (by omega), hb1.trans ((setCell_chg w1 (H + 1) 0 (.int .i64 200)).below (by have := hb1.size; omega) (fun k e => by omega)), by rw [(hB1.set 0 _).cell 0]; rfl, ?_, hlt, hH⟩
    have : Blk (w1.setCell ⟨H + 1, 0, none⟩ (.int .i64 200)) H #[.pointer (some ⟨jb, 0, none⟩)] 31 := (setCell_chg _ _ _ _).blk hB0 (by omega)
    exact this.cell 0
  clear h hb1 hB0 hB1 hJ hlt
  go_enter_defers Try.func16, Try.ntmps16
  go_upto_region 2 with fail
  rw [← hw1, ← hH]
  clear hw1 hH
  go_wp2_with fail
  have z2 := HF.out.2.2.1
  have z3 := HF.out.2.2.2.1
  clear z1 f1 c4 b0
  generalize w1.setCell ⟨H + 1, 0, none⟩ (.int .i64 200) = w6 at HF z2 z3 ⊢
  refine leaves_cons (f := 37) (args := #[.pointer (some ⟨H + 1, 0, none⟩), .pointer (some ⟨H, 0, none⟩)]) (by simp) (by simp [go_sem]) ?_
  refine (late_die .returning _ z2 z3 HF.out.1 rfl).mono ?_
  rintro e u' w' ⟨rfl, rfl, hd1, hd2⟩
  have hne : (H + 1) ≠ jb := fun e => by have := HF.out.2.2.2.2.1; omega
  have zz : w'.cell? ⟨H + 1, 0, none⟩ = some (.int .i64 200) := by
    rw [← z2]
    exact World.cell?_of_block (w := w6) (hd2.block _ (World.block_lt_of_cell? w6 _ z2) hne)
  have hbb : Below w.heap.size w w6 := by rw [← HF.out.2.2.2.2.2]; exact HF.out.2.1
  refine ⟨.int .i64 200, ?_, rfl, hd1, (Chg.ofBelow (fun k => k = jb) hbb).trans hd2 (fun _ _ e => e)⟩
  simp [results, Try.results16, go_sem, zz]
set_option maxHeartbeats 1600000 in
theorem append_offG {L s : Nat} {y : JV} {x : DV} {vo : Option Addr} {vn vc : Nat} (w : World) (h : Blk w jb y.cs 79) (hd : DM L y.p s x w) (ho : x.off = true) : Calls Try.prog 16 #[.pointer (some ⟨jb, 0, none⟩), .slice vo vn vc] w fun e w' => e = .returned (.int .i64 200) ∧ Blk w' jb deadA 79 ∧ Chg (fun k => k = jb) w w' := by
  have hmf : ∀ (fn : Fn) (first cap : Array Value) (w : World), (Instr.makeFunc fn first cap).run Try.prog w = .ok (.func fn first cap) w := fun _ _ _ _ => rfl
  obtain ⟨H, hH⟩ : ∃ H, H = w.heap.size := ⟨_, rfl⟩
  obtain ⟨w1, hw1⟩ : ∃ w1, w1 = (w.alloc (.cells #[.pointer (some ⟨jb, 0, none⟩)] 31)).alloc (.cells #[.int .i64 0] 25) := ⟨_, rfl⟩
  have hb1 : Below H w w1 := by rw [hw1, hH]; exact ((Below.refl _ _).alloc (Nat.le_refl _) _).alloc (by rw [World.size_alloc]; omega) _
  have hB0 : Blk w1 H #[.pointer (some ⟨jb, 0, none⟩)] 31 := by rw [hw1, hH]; exact heap_alloc2_old w _ _
  have hB1 : Blk w1 (H + 1) #[.int .i64 0] 25 := by rw [hw1, hH]; exact heap_alloc2_new w _ _
  have hlt : jb < H := by rw [hH]; exact h.lt
  have hJ : Blk w1 jb y.cs 79 := h.below hb1 hlt
  have hd1 : DM L y.p s x w1 := hd.more (by rw [← hH]; exact hb1)
  have HON : Hid _ := isOn_any w1 hd1
  rw [ho] at HON
  have c0 : w1.cell? ⟨jb, 0, none⟩ = some (.pointer (some ⟨y.p, 0, none⟩)) := hJ.cell 0
  have c4 : w1.cell? ⟨jb, 4, none⟩ = some (.bool false) := hJ.cell 4
  have b0 : w1.cell? ⟨H, 0, none⟩ = some (.pointer (some ⟨jb, 0, none⟩)) := hB0.cell 0
  have z1 : w1.cell? ⟨H + 1, 0, none⟩ = some (.int .i64 0) := hB1.cell 0
  have f1 : w1.frozen? ⟨H + 1, 0, none⟩ = false := hB1.frozen 0
  have HF : Hid (Blk (w1.setCell ⟨H + 1, 0, none⟩ (.int .i64 200)) jb y.cs 79 ∧ Below H w (w1.setCell ⟨H + 1, 0, none⟩ (.int .i64 200)) ∧ (w1.setCell ⟨H + 1, 0, none⟩ (.int .i64 200)).cell? ⟨H + 1, 0, none⟩ = some (.int .i64 200) ∧ (w1.setCell ⟨H + 1, 0, none⟩ (.int .i64 200)).cell? ⟨H, 0, none⟩ = some (.pointer (some ⟨jb, 0, none⟩)) ∧ jb < H ∧ H = w.heap.size) := by
    refine ⟨(setCell_chg _ _ _ _).blk hJ (by omega), hb1.trans ((setCell_chg w1 (H + 1) 0 (.int .i64 200)).below (by have := hb1.size; omega) (fun k e => by omega)), by rw [(hB1.set 0 _).cell 0]; rfl, ?_, hlt, hH⟩
    have : Blk (w1.setCell ⟨H + 1, 0, none⟩ (.int .i64 200)) H #[.pointer (some ⟨jb, 0, none⟩)] 31 := (setCell_chg _ _ _ _).blk hB0 (by omega)
    exact this.cell 0
  clear h hb1 hB0 hB1 hJ hlt hd hd1 ho
  go_enter_defers Try.func16, Try.ntmps16
  go_upto_region 2 with fail
  rw [← hw1, ← hH]
  clear hw1 hH
  go_wp2_with fail
  refine Calls.mono HON.out ?_
  rintro e wo ⟨rfl, hwo⟩
  replace hwo := hwo.symm
  subst hwo
  clear HON c0
  go_wp2_with fail
  have z2 := HF.out.2.2.1
  have z3 := HF.out.2.2.2.1
  clear z1 f1 c4 b0
  generalize w1.setCell ⟨H + 1, 0, none⟩ (.int .i64 200) = w6 at HF z2 z3 ⊢
  refine leaves_cons (f := 37) (args := #[.pointer (some ⟨H + 1, 0, none⟩), .pointer (some ⟨H, 0, none⟩)]) (by simp) (by simp [go_sem]) ?_
  refine (late_die .returning _ z2 z3 HF.out.1 rfl).mono ?_
  rintro e u' w' ⟨rfl, rfl, hd1, hd2⟩
  have hne : (H + 1) ≠ jb := fun e => by have := HF.out.2.2.2.2.1; omega
  have zz : w'.cell? ⟨H + 1, 0, none⟩ = some (.int .i64 200) := by
    rw [← z2]
    exact World.cell?_of_block (w := w6) (hd2.block _ (World.block_lt_of_cell? w6 _ z2) hne)
  have hbb : Below w.heap.size w w6 := by rw [← HF.out.2.2.2.2.2]; exact HF.out.2.1
  refine ⟨.int .i64 200, ?_, rfl, hd1, (Chg.ofBelow (fun k => k = jb) hbb).trans hd2 (fun _ _ e => e)⟩
  simp [results, Try.results16, go_sem, zz]
end
end Go.Proofs.Ytcnokgphioigoaa
