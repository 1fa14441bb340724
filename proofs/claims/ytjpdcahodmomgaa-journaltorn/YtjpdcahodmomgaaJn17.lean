import Derived.Test.YtjpdcahodmomgaaJn8
namespace Go.Proofs.Ytjpdcahodmomgaa
open Go.RowKit Go.PlainAid
set_option linter.unusedVariables false
set_option linter.unusedSimpArgs false
set_option maxRecDepth 100000 in
set_option maxHeartbeats 3200000 in
theorem append_long {L jb s : Nat} {y : JV} {x : DV} {R : List (Ent L)} {vo : Option Addr} {n c : Nat} (w : World) (h : Held (y.es L jb ++ (dmE L y.p s x :: R)) w) (hn : 8192 < n) (hn2 : n ≤ 9223372036854775807) (ho : x.off = false) :
    Calls Try.prog 16 #[.pointer (some ⟨jb, 0, none⟩), .slice vo n c] w fun e w' => e = .returned (.int .i64 2) ∧ Held (y.es L jb ++ (dmE L y.p s x :: R)) w' ∧ Below L w w' := by
  have hmf : ∀ (fn : Fn) (first cap : Array Value) (w : World), (Instr.makeFunc fn first cap).run Try.prog w = .ok (.func fn first cap) w := fun _ _ _ _ => rfl
  obtain ⟨H, hH⟩ : ∃ H, H = w.heap.size := ⟨_, rfl⟩
  have hL := jlow h
  obtain ⟨w1, hw1⟩ : ∃ w1, w1 = (w.alloc (.cells #[.pointer (some ⟨jb, 0, none⟩)] 31)).alloc (.cells #[.int .i64 0] 25) := ⟨_, rfl⟩
  have hb1 : Below H w w1 := by rw [hw1, hH]; exact ((Below.refl _ _).alloc (Nat.le_refl _) _).alloc (by rw [World.size_alloc]; omega) _
  have hB0 : Blk w1 H #[.pointer (some ⟨jb, 0, none⟩)] 31 := by rw [hw1, hH]; exact heap_alloc2_old w _ _
  have hB1 : Blk w1 (H + 1) #[.int .i64 0] 25 := by rw [hw1, hH]; exact heap_alloc2_new w _ _
  have h1 : Held (y.es L jb ++ (dmE L y.p s x :: R)) w1 := h.more (by rw [← hH]; exact hb1)
  have HON : Hid _ := isOn_any w1 (h1d h1)
  rw [ho] at HON
  have c4 : w1.cell? ⟨jb, 4, none⟩ = some (.bool false) := (jbox h1).cell 4
  have c0 : w1.cell? ⟨jb, 0, none⟩ = some (.pointer (some ⟨y.p, 0, none⟩)) := (jbox h1).cell 0
  have b0 : w1.cell? ⟨H, 0, none⟩ = some (.pointer (some ⟨jb, 0, none⟩)) := hB0.cell 0
  have z1 : w1.cell? ⟨H + 1, 0, none⟩ = some (.int .i64 0) := hB1.cell 0
  have f1 : w1.frozen? ⟨H + 1, 0, none⟩ = false := hB1.frozen 0
  have HF : Hid (Held (y.es L jb ++ (dmE L y.p s x :: R)) (w1.setCell ⟨H + 1, 0, none⟩ (.int .i64 2)) ∧ Below L w (w1.setCell ⟨H + 1, 0, none⟩ (.int .i64 2)) ∧ (w1.setCell ⟨H + 1, 0, none⟩ (.int .i64 2)).cell? ⟨H + 1, 0, none⟩ = some (.int .i64 2)) := by
    refine ⟨h1.chg (setCell_chg _ _ _ _) (fun k hk e => ?_), (hb1.mono (by omega)).trans ((setCell_chg _ _ _ _).below (by have := hb1.size; omega) (fun k e => by omega)), by rw [(hB1.set 0 _).cell 0]; rfl⟩
    have := (h.typ hk).2
    omega
  have hn' : (8192 : Int) < (n : Int) := by omega
  clear h h1 hb1 hB0 hB1 hL ho hn
  go_enter_defers Try.func16, Try.ntmps16
  go_upto_region 2 with fail
  rw [← hw1, ← hH]
  clear hw1 hH
  go_wp2_with fail
  refine Calls.mono HON.out ?_
  rintro e wo ⟨rfl, hwo⟩
  replace hwo := hwo.symm
  subst hwo
  clear HON c4 c0
  go_wp2_with fail
  have z2 := HF.out.2.2
  clear z1 f1
  generalize w1.setCell ⟨H + 1, 0, none⟩ (.int .i64 2) = w6 at HF z2 ⊢
  refine leaves_cons (f := 38) (args := #[.pointer (some ⟨H + 1, 0, none⟩), .pointer (some ⟨H, 0, none⟩)]) (by simp) (by simp [go_sem]) ?_
  refine (late_any (H + 1) H 2 (by decide) .returning _ z2).mono ?_
  rintro e u' w' ⟨rfl, rfl, rfl⟩
  refine ⟨.int .i64 2, ?_, rfl, HF.out.1, HF.out.2.1⟩
  simp [results, Try.results16, go_sem, z2]
end Go.Proofs.Ytjpdcahodmomgaa
