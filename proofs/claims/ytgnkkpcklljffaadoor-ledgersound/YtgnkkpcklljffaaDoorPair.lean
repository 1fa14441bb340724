import Derived.Test.YtgnkkpcklljffaaDoorRefC
namespace Go.Proofs.YtgnkkpcklljffaaDoor
open Go.RowKit Go.PlainAid
set_option linter.unusedVariables false
set_option linter.unusedSimpArgs false
theorem blk_ne {w : World} {a b : Nat} {C D : Array Value} {T U : TypeId} (h : Blk w a C T) (k : Blk w b D U) (hn : T ≠ U) : a ≠ b := fun e => by
  subst e
  have := Option.some.inj (h.symm.trans k)
  injection this with _ h2 _
  exact hn h2
/-- What else stays where two blocks may change. -/
structure Stq2 (hl hr : Nat) (w w' : World) : Prop where
  os : w'.os = w.os
  tape : w'.tape = w.tape
  output : w'.output = w.output
  size : w.heap.size ≤ w'.heap.size
  block : ∀ k, k < w.heap.size → k ≠ hl → k ≠ hr → w'.heap[k]? = w.heap[k]?
theorem Stq2.refl (hl hr : Nat) (w : World) : Stq2 hl hr w w := ⟨rfl, rfl, rfl, Nat.le_refl _, fun _ _ _ _ => rfl⟩
theorem Stq2.left {hl hr : Nat} {w v z : World} (h : Stq2 hl hr w v) (k : Stq hl v z) : Stq2 hl hr w z :=
  ⟨k.os.trans h.os, k.tape.trans h.tape, k.output.trans h.output, Nat.le_trans h.size k.size, fun j hj h1 h2 => (k.block j (Nat.lt_of_lt_of_le hj h.size) h1).trans (h.block j hj h1 h2)⟩
theorem Stq2.right {hl hr : Nat} {w v z : World} (h : Stq2 hl hr w v) (k : Stq hr v z) : Stq2 hl hr w z :=
  ⟨k.os.trans h.os, k.tape.trans h.tape, k.output.trans h.output, Nat.le_trans h.size k.size, fun j hj h1 h2 => (k.block j (Nat.lt_of_lt_of_le hj h.size) h2).trans (h.block j hj h1 h2)⟩
theorem Stq2.drew {hl hr : Nat} {w v : World} (h : Stq2 hl hr w v) : Stq2 hl hr w ({ v with drawn := v.drawn + 1 } : World) := ⟨h.os, h.tape, h.output, h.size, h.block⟩
theorem Stq2.more {hl hr : Nat} {w v z : World} (h : Stq2 hl hr w v) (k : Below v.heap.size v z) : Stq2 hl hr w z := h.left (Stq.ofBelow k)
theorem Stq2.below {hl hr : Nat} {w w' : World} (h : Stq2 hl hr w w') {L : Nat} (hL : L ≤ w.heap.size) (h1 : L ≤ hl) (h2 : L ≤ hr) : Below L w w' :=
  ⟨h.os, h.tape, h.output, h.size, fun k hk => h.block k (by omega) (by omega) (by omega)⟩
/-- The program's ledger and the document's, in one state. -/
structure Pr (hp hl hr : Nat) (s : LS) (w : World) : Prop where
  p : Blk w hp #[.pointer (some ⟨hl, 0, none⟩), .pointer (some ⟨hr, 0, none⟩)] 59
  l : Blk w hl s.cs 62
  r : Blk w hr s.cs 81
  ok : s.Ok
theorem Pr.below {hp hl hr : Nat} {s : LS} {w w' : World} (h : Pr hp hl hr s w) (k : Below w.heap.size w w') : Pr hp hl hr s w' :=
  ⟨h.p.below k h.p.lt, h.l.below k h.l.lt, h.r.below k h.r.lt, h.ok⟩
/-- All that 'played' holds. -/
structure PB (S : Sens) (L hp hl hr ob rb : Nat) (s t : LS) (kind who a b : Int) (w X : World) : Prop where
  p : Blk X hp #[.pointer (some ⟨hl, 0, none⟩), .pointer (some ⟨hr, 0, none⟩)] 59
  l : Blk X hl s.cs 62
  r : Blk X hr t.cs 81
  o : Blk X ob #[.int .i64 kind, .int .i64 who, .int .i64 a, .int .i64 b] 45
  x : Blk X rb #[.int .i64 a, .int .i64 b] 29
  sen : Sen S L X
  q : Stq2 hl hr w X
  L1 : L ≤ hl
  L2 : L ≤ hr
section
variable {S : Sens} {L hp hl hr ob rb : Nat} {s t : LS} {kind who a b : Int} {w X : World}
theorem PB.drew (h : PB S L hp hl hr ob rb s t kind who a b w X) : PB S L hp hl hr ob rb s t kind who a b w ({ X with drawn := X.drawn + 1 } : World) :=
  ⟨h.p, h.l, h.r, h.o, h.x, h.sen.below ⟨rfl, rfl, rfl, Nat.le_refl _, fun _ _ => rfl⟩, h.q.drew, h.L1, h.L2⟩
theorem PB.left {s' : LS} {Y : World} (h : PB S L hp hl hr ob rb s t kind who a b w X) (hB : Blk Y hl s'.cs 62) (hq : Stq hl X Y) : PB S L hp hl hr ob rb s' t kind who a b w Y :=
  ⟨hq.blk h.p (blk_ne h.p h.l (by decide)), hB, hq.blk h.r (blk_ne h.r h.l (by decide)), hq.blk h.o (blk_ne h.o h.l (by decide)), hq.blk h.x (blk_ne h.x h.l (by decide)), h.sen.below (hq.below (Nat.le_of_lt (Nat.lt_of_le_of_lt h.L1 h.l.lt)) h.L1), h.q.left hq, h.L1, h.L2⟩
theorem PB.right {s' : LS} {Y : World} (h : PB S L hp hl hr ob rb s t kind who a b w X) (hB : Blk Y hr s'.cs 81) (hq : Stq hr X Y) : PB S L hp hl hr ob rb s s' kind who a b w Y :=
  ⟨hq.blk h.p (blk_ne h.p h.r (by decide)), hq.blk h.l (blk_ne h.l h.r (by decide)), hB, hq.blk h.o (blk_ne h.o h.r (by decide)), hq.blk h.x (blk_ne h.x h.r (by decide)), h.sen.below (hq.below (Nat.le_of_lt (Nat.lt_of_le_of_lt h.L2 h.r.lt)) h.L2), h.q.right hq, h.L1, h.L2⟩
theorem PB.more {Y : World} (h : PB S L hp hl hr ob rb s t kind who a b w X) (k : Below X.heap.size X Y) : PB S L hp hl hr ob rb s t kind who a b w Y := h.left (h.l.below k h.l.lt) (Stq.ofBelow k)
theorem PB.pr (h : PB S L hp hl hr ob rb s s kind who a b w X) (ok : s.Ok) : Pr hp hl hr s X := ⟨h.p, h.l, h.r, ok⟩
end
def KC (hp hl hr ob rb : Nat) (kind who a b : Int) (wr : World) : Prop := Blk wr hp #[.pointer (some ⟨hl, 0, none⟩), .pointer (some ⟨hr, 0, none⟩)] 59 ∧ Blk wr ob #[.int .i64 kind, .int .i64 who, .int .i64 a, .int .i64 b] 45 ∧ Blk wr rb #[.int .i64 a, .int .i64 b] 29
theorem PB.kc {S : Sens} {L hp hl hr ob rb : Nat} {s t : LS} {kind who a b : Int} {w X : World} (h : PB S L hp hl hr ob rb s t kind who a b w X) : KC hp hl hr ob rb kind who a b X := ⟨h.p, h.o, h.x⟩
section
variable {hp hl hr ob rb : Nat} {kind who a b : Int} {wr : World} (h : KC hp hl hr ob rb kind who a b wr)
include h
theorem KC.p0 : wr.cell? ⟨hp, 0, none⟩ = some (.pointer (some ⟨hl, 0, none⟩)) := h.1.cell 0
theorem KC.p1 : wr.cell? ⟨hp, 1, none⟩ = some (.pointer (some ⟨hr, 0, none⟩)) := h.1.cell 1
theorem KC.o0 : wr.cell? ⟨ob, 0, none⟩ = some (.int .i64 kind) := h.2.1.cell 0
theorem KC.o2 : wr.cell? ⟨ob, 2, none⟩ = some (.int .i64 a) := h.2.1.cell 2
theorem KC.o3 : wr.cell? ⟨ob, 3, none⟩ = some (.int .i64 b) := h.2.1.cell 3
theorem KC.x0 : wr.cell? ⟨rb, 0, none⟩ = some (.int .i64 a) := h.2.2.cell 0
theorem KC.x1 : wr.cell? ⟨rb, 1, none⟩ = some (.int .i64 b) := h.2.2.cell 1
end
set_option maxRecDepth 100000 in
set_option maxHeartbeats 6400000 in
theorem shows_any {hp hl hr : Nat} {s : LS} (w : World) (h : Pr hp hl hr s w) : Calls Tryd.prog 41 #[.pointer (some ⟨hp, 0, none⟩)] w fun r w' => r = .returned (.bool true) ∧ Below w.heap.size w w' := by
  have hcap := cap_any w h.l
  have c0 : w.cell? ⟨hp, 0, none⟩ = some (.pointer (some ⟨hl, 0, none⟩)) := h.p.cell 0
  obtain ⟨d, u, x, c, n⟩ := s
  have HP : Hid _ := h
  clear h
  go_enter Tryd.func41, Tryd.ntmps41
  go_wp2_with fail
  refine hcap.mono ?_
  rintro e1 w1 ⟨rfl, q, rfl⟩
  clear hcap
  go_wp2_with fail
  rename_i K hK
  try rw [show ∀ a : Act, a.put none undef = a from fun _ => rfl]
  have hX : Below w.heap.size w ({ (w.drewN q) with drawn := (w.drewN q).drawn + 1 } : World) := ⟨rfl, rfl, rfl, Nat.le_refl _, fun _ _ => rfl⟩
  refine wp_region_mix (fun wr => Below w.heap.size w wr) (fun i => i == 25 || i == 30 || i == 31 || i == 38 || i == 43 || i == 47) 47 (by kernel_rfl) rfl (by kernel_rfl) (by kernel_rfl) (by kernel_rfl) ?_
  generalize ({ (w.drewN q) with drawn := (w.drewN q).drawn + 1 } : World) = X at *
  have hC0 : Below w.heap.size w X := hX
  have hlp : hp < w.heap.size := HP.out.p.lt
  have hlr : hr < w.heap.size := HP.out.r.lt
  have hll : hl < w.heap.size := HP.out.l.lt
  have f0p : w.cell? ⟨hp, 0, none⟩ = some (.pointer (some ⟨hl, 0, none⟩)) := HP.out.p.cell 0
  have f1p : w.cell? ⟨hp, 1, none⟩ = some (.pointer (some ⟨hr, 0, none⟩)) := HP.out.p.cell 1
  have f3r : w.cell? ⟨hr, 3, none⟩ = some (.int .i64 c) := HP.out.r.cell 3
  have f4r : w.cell? ⟨hr, 4, none⟩ = some (.int .i64 n) := HP.out.r.cell 4
  refine withFrP (N := 59) rfl ?_
  intro f0 F0 hff
  have hs0 : f0 0 = Value.pointer (some ⟨hp, 0, none⟩) := hff 0
  have hs3 : f0 3 = Value.int .i64 c := hff 3
  have hs4 : f0 4 = Value.int .i64 n := hff 4
  clear hff
  refine lyp F0 rfl hC0 rfl (by omega) (wanted_none rfl) (v := Value.int .i64 c) (fun wr hwr => by simp only [execOp, (F0.eval 3 (by omega)).trans (show _ = Value.int .i64 c from by simp [upd, hs0, hs3, hs4])]; first | rfl | simp [go_sem]) fun F1 => ?_
  refine lyp F1 rfl hC0 rfl (by omega) (wanted_none rfl) (v := Value.pointer (some ⟨hp, 0, none⟩)) (fun wr hwr => by simp only [execOp, (F1.eval 0 (by omega)).trans (show _ = Value.pointer (some ⟨hp, 0, none⟩) from by simp [upd, hs0, hs3, hs4])]; first | rfl | simp [go_sem]) fun F2 => ?_
  refine lyp F2 rfl hC0 rfl (by omega) (wanted_none rfl) (v := Value.pointer (some ⟨hp, 0, none⟩)) (fun wr hwr => by simp only [execOp, (F2.eval 14 (by omega)).trans (show _ = Value.pointer (some ⟨hp, 0, none⟩) from by simp [upd, hs0, hs3, hs4])]; first | rfl | simp [go_sem]) fun F3 => ?_
  refine lyp F3 rfl hC0 rfl (by omega) (wanted_none rfl) (v := Value.pointer (some ⟨hp, 1, none⟩)) (fun wr hwr => by simp only [execOp, (F3.eval 15 (by omega)).trans (show _ = Value.pointer (some ⟨hp, 0, none⟩) from by simp [upd, hs0, hs3, hs4])]; first | rfl | simp [go_sem]) fun F4 => ?_
  refine lyp F4 rfl hC0 rfl (by omega) (wanted_none rfl) (v := Value.pointer (some ⟨hr, 0, none⟩)) (fun wr hwr => by simp only [execOp, (F4.eval 16 (by omega)).trans (show _ = Value.pointer (some ⟨hp, 1, none⟩) from by simp [upd, hs0, hs3, hs4])]; simp [go_sem, ((hwr.cell (p := ⟨hp, 1, none⟩) hlp).trans f1p)]) fun F5 => ?_
  refine lyp F5 rfl hC0 rfl (by omega) (wanted_none rfl) (v := Value.pointer (some ⟨hr, 0, none⟩)) (fun wr hwr => by simp only [execOp, (F5.eval 17 (by omega)).trans (show _ = Value.pointer (some ⟨hr, 0, none⟩) from by simp [upd, hs0, hs3, hs4])]; first | rfl | simp [go_sem]) fun F6 => ?_
  refine lyp F6 rfl hC0 rfl (by omega) (wanted_none rfl) (v := Value.pointer (some ⟨hr, 3, none⟩)) (fun wr hwr => by simp only [execOp, (F6.eval 18 (by omega)).trans (show _ = Value.pointer (some ⟨hr, 0, none⟩) from by simp [upd, hs0, hs3, hs4])]; first | rfl | simp [go_sem]) fun F7 => ?_
  refine lyp F7 rfl hC0 rfl (by omega) (wanted_none rfl) (v := Value.int .i64 c) (fun wr hwr => by simp only [execOp, (F7.eval 19 (by omega)).trans (show _ = Value.pointer (some ⟨hr, 3, none⟩) from by simp [upd, hs0, hs3, hs4])]; simp [go_sem, ((hwr.cell (p := ⟨hr, 3, none⟩) hlr).trans f3r)]) fun F8 => ?_
  refine lyp F8 rfl hC0 rfl (by omega) (wanted_none rfl) (v := Value.bool true) (fun wr hwr => by simp only [execOp, (F8.eval 13 (by omega)).trans (show _ = Value.int .i64 c from by simp [upd, hs0, hs3, hs4]), (F8.eval 20 (by omega)).trans (show _ = Value.int .i64 c from by simp [upd, hs0, hs3, hs4])]; simp [go_sem, Act.eval]) fun F9 => ?_
  refine lyp F9 rfl hC0 rfl (by omega) (wanted_none rfl) (v := Value.bool true) (fun wr hwr => by simp only [execOp, (F9.eval 21 (by omega)).trans (show _ = Value.bool true from by simp [upd, hs0, hs3, hs4])]; first | rfl | simp [go_sem]) fun F10 => ?_
  refine lyp F10 rfl hC0 rfl (by omega) (want_yes F10 rfl (e := 22) rfl (by omega) (show _ = Value.bool true from by simp [upd, hs0, hs3, hs4])) (v := Value.int .i64 n) (fun wr hwr => by simp only [execOp, (F10.eval 4 (by omega)).trans (show _ = Value.int .i64 n from by simp [upd, hs0, hs3, hs4])]; first | rfl | simp [go_sem]) fun F11 => ?_
  refine lyp F11 rfl hC0 rfl (by omega) (want_yes F11 rfl (e := 22) rfl (by omega) (show _ = Value.bool true from by simp [upd, hs0, hs3, hs4])) (v := Value.pointer (some ⟨hp, 0, none⟩)) (fun wr hwr => by simp only [execOp, (F11.eval 0 (by omega)).trans (show _ = Value.pointer (some ⟨hp, 0, none⟩) from by simp [upd, hs0, hs3, hs4])]; first | rfl | simp [go_sem]) fun F12 => ?_
  refine lyp F12 rfl hC0 rfl (by omega) (want_yes F12 rfl (e := 22) rfl (by omega) (show _ = Value.bool true from by simp [upd, hs0, hs3, hs4])) (v := Value.pointer (some ⟨hp, 0, none⟩)) (fun wr hwr => by simp only [execOp, (F12.eval 24 (by omega)).trans (show _ = Value.pointer (some ⟨hp, 0, none⟩) from by simp [upd, hs0, hs3, hs4])]; first | rfl | simp [go_sem]) fun F13 => ?_
  refine lyp F13 rfl hC0 rfl (by omega) (want_yes F13 rfl (e := 22) rfl (by omega) (show _ = Value.bool true from by simp [upd, hs0, hs3, hs4])) (v := Value.pointer (some ⟨hp, 1, none⟩)) (fun wr hwr => by simp only [execOp, (F13.eval 25 (by omega)).trans (show _ = Value.pointer (some ⟨hp, 0, none⟩) from by simp [upd, hs0, hs3, hs4])]; first | rfl | simp [go_sem]) fun F14 => ?_
  refine lyp F14 rfl hC0 rfl (by omega) (want_yes F14 rfl (e := 22) rfl (by omega) (show _ = Value.bool true from by simp [upd, hs0, hs3, hs4])) (v := Value.pointer (some ⟨hr, 0, none⟩)) (fun wr hwr => by simp only [execOp, (F14.eval 26 (by omega)).trans (show _ = Value.pointer (some ⟨hp, 1, none⟩) from by simp [upd, hs0, hs3, hs4])]; simp [go_sem, ((hwr.cell (p := ⟨hp, 1, none⟩) hlp).trans f1p)]) fun F15 => ?_
  refine lyp F15 rfl hC0 rfl (by omega) (want_yes F15 rfl (e := 22) rfl (by omega) (show _ = Value.bool true from by simp [upd, hs0, hs3, hs4])) (v := Value.pointer (some ⟨hr, 0, none⟩)) (fun wr hwr => by simp only [execOp, (F15.eval 27 (by omega)).trans (show _ = Value.pointer (some ⟨hr, 0, none⟩) from by simp [upd, hs0, hs3, hs4])]; first | rfl | simp [go_sem]) fun F16 => ?_
  refine lyp F16 rfl hC0 rfl (by omega) (want_yes F16 rfl (e := 22) rfl (by omega) (show _ = Value.bool true from by simp [upd, hs0, hs3, hs4])) (v := Value.pointer (some ⟨hr, 4, none⟩)) (fun wr hwr => by simp only [execOp, (F16.eval 28 (by omega)).trans (show _ = Value.pointer (some ⟨hr, 0, none⟩) from by simp [upd, hs0, hs3, hs4])]; first | rfl | simp [go_sem]) fun F17 => ?_
  refine lyp F17 rfl hC0 rfl (by omega) (want_yes F17 rfl (e := 22) rfl (by omega) (show _ = Value.bool true from by simp [upd, hs0, hs3, hs4])) (v := Value.int .i64 n) (fun wr hwr => by simp only [execOp, (F17.eval 29 (by omega)).trans (show _ = Value.pointer (some ⟨hr, 4, none⟩) from by simp [upd, hs0, hs3, hs4])]; simp [go_sem, ((hwr.cell (p := ⟨hr, 4, none⟩) hlr).trans f4r)]) fun F18 => ?_
  refine lyp F18 rfl hC0 rfl (by omega) (want_yes F18 rfl (e := 22) rfl (by omega) (show _ = Value.bool true from by simp [upd, hs0, hs3, hs4])) (v := Value.bool true) (fun wr hwr => by simp only [execOp, (F18.eval 23 (by omega)).trans (show _ = Value.int .i64 n from by simp [upd, hs0, hs3, hs4]), (F18.eval 30 (by omega)).trans (show _ = Value.int .i64 n from by simp [upd, hs0, hs3, hs4])]; simp [go_sem, Act.eval]) fun F19 => ?_
  refine lyp F19 rfl hC0 rfl (by omega) (wanted_none rfl) (v := Value.bool true) (fun wr hwr => by simp only [execOp, (F19.eval 22 (by omega)).trans (show _ = Value.bool true from by simp [upd, hs0, hs3, hs4]), (F19.eval 31 (by omega)).trans (show _ = Value.bool true from by simp [upd, hs0, hs3, hs4])]; simp [go_sem, Act.eval]) fun F20 => ?_
  refine lyp F20 rfl hC0 rfl (by omega) (wanted_none rfl) (v := Value.bool true) (fun wr hwr => by simp only [execOp, (F20.eval 32 (by omega)).trans (show _ = Value.bool true from by simp [upd, hs0, hs3, hs4])]; first | rfl | simp [go_sem]) fun F21 => ?_
  refine lyp F21 rfl hC0 rfl (by omega) (want_yes F21 rfl (e := 33) rfl (by omega) (show _ = Value.bool true from by simp [upd, hs0, hs3, hs4])) (v := Value.pointer (some ⟨hp, 0, none⟩)) (fun wr hwr => by simp only [execOp, (F21.eval 0 (by omega)).trans (show _ = Value.pointer (some ⟨hp, 0, none⟩) from by simp [upd, hs0, hs3, hs4])]; first | rfl | simp [go_sem]) fun F22 => ?_
  refine lyp F22 rfl hC0 rfl (by omega) (want_yes F22 rfl (e := 33) rfl (by omega) (show _ = Value.bool true from by simp [upd, hs0, hs3, hs4])) (v := Value.pointer (some ⟨hp, 0, none⟩)) (fun wr hwr => by simp only [execOp, (F22.eval 34 (by omega)).trans (show _ = Value.pointer (some ⟨hp, 0, none⟩) from by simp [upd, hs0, hs3, hs4])]; first | rfl | simp [go_sem]) fun F23 => ?_
  refine lyp F23 rfl hC0 rfl (by omega) (want_yes F23 rfl (e := 33) rfl (by omega) (show _ = Value.bool true from by simp [upd, hs0, hs3, hs4])) (v := Value.pointer (some ⟨hp, 0, none⟩)) (fun wr hwr => by simp only [execOp, (F23.eval 35 (by omega)).trans (show _ = Value.pointer (some ⟨hp, 0, none⟩) from by simp [upd, hs0, hs3, hs4])]; first | rfl | simp [go_sem]) fun F24 => ?_
  refine lyp F24 rfl hC0 rfl (by omega) (want_yes F24 rfl (e := 33) rfl (by omega) (show _ = Value.bool true from by simp [upd, hs0, hs3, hs4])) (v := Value.pointer (some ⟨hl, 0, none⟩)) (fun wr hwr => by simp only [execOp, (F24.eval 36 (by omega)).trans (show _ = Value.pointer (some ⟨hp, 0, none⟩) from by simp [upd, hs0, hs3, hs4])]; simp [go_sem, ((hwr.cell (p := ⟨hp, 0, none⟩) hlp).trans f0p)]) fun F25 => ?_
  refine lcp F25 rfl hC0 rfl (by omega) (want_yes F25 rfl (e := 33) rfl (by omega) (show _ = Value.bool true from by simp [upd, hs0, hs3, hs4])) (g := 16) (args := #[Value.pointer (some ⟨hl, 0, none⟩)]) (by simp only [execOp, resolve, invoke, List.map_toArray, List.map_cons, List.map_nil, (F25.eval 37 (by omega)).trans (show _ = Value.pointer (some ⟨hl, 0, none⟩) from by simp [upd, hs0, hs3, hs4])]; simp [go_sem, Act.eval]) (rights_any _ (Blk.below HP.out.l hC0 HP.out.l.lt)) ?_
  rintro e2 v1 ⟨rfl, hb1⟩
  refine ⟨_, rfl, fun F26 => ?_⟩
  have hC1 : Below w.heap.size w v1 := hC0.trans (hb1.mono hC0.size)
  refine lyp F26 rfl hC1 rfl (by omega) (want_yes F26 rfl (e := 33) rfl (by omega) (show _ = Value.bool true from by simp [upd, hs0, hs3, hs4])) (v := Value.pointer (some ⟨hp, 0, none⟩)) (fun wr hwr => by simp only [execOp, (F26.eval 0 (by omega)).trans (show _ = Value.pointer (some ⟨hp, 0, none⟩) from by simp [upd, hs0, hs3, hs4])]; first | rfl | simp [go_sem]) fun F27 => ?_
  refine lyp F27 rfl hC1 rfl (by omega) (want_yes F27 rfl (e := 33) rfl (by omega) (show _ = Value.bool true from by simp [upd, hs0, hs3, hs4])) (v := Value.pointer (some ⟨hp, 0, none⟩)) (fun wr hwr => by simp only [execOp, (F27.eval 39 (by omega)).trans (show _ = Value.pointer (some ⟨hp, 0, none⟩) from by simp [upd, hs0, hs3, hs4])]; first | rfl | simp [go_sem]) fun F28 => ?_
  refine lyp F28 rfl hC1 rfl (by omega) (want_yes F28 rfl (e := 33) rfl (by omega) (show _ = Value.bool true from by simp [upd, hs0, hs3, hs4])) (v := Value.pointer (some ⟨hp, 1, none⟩)) (fun wr hwr => by simp only [execOp, (F28.eval 40 (by omega)).trans (show _ = Value.pointer (some ⟨hp, 0, none⟩) from by simp [upd, hs0, hs3, hs4])]; first | rfl | simp [go_sem]) fun F29 => ?_
  refine lyp F29 rfl hC1 rfl (by omega) (want_yes F29 rfl (e := 33) rfl (by omega) (show _ = Value.bool true from by simp [upd, hs0, hs3, hs4])) (v := Value.pointer (some ⟨hr, 0, none⟩)) (fun wr hwr => by simp only [execOp, (F29.eval 41 (by omega)).trans (show _ = Value.pointer (some ⟨hp, 1, none⟩) from by simp [upd, hs0, hs3, hs4])]; simp [go_sem, ((hwr.cell (p := ⟨hp, 1, none⟩) hlp).trans f1p)]) fun F30 => ?_
  refine lcp F30 rfl hC1 rfl (by omega) (want_yes F30 rfl (e := 33) rfl (by omega) (show _ = Value.bool true from by simp [upd, hs0, hs3, hs4])) (g := 53) (args := #[Value.pointer (some ⟨hr, 0, none⟩)]) (by simp only [execOp, resolve, invoke, List.map_toArray, List.map_cons, List.map_nil, (F30.eval 42 (by omega)).trans (show _ = Value.pointer (some ⟨hr, 0, none⟩) from by simp [upd, hs0, hs3, hs4])]; simp [go_sem, Act.eval]) (rrights_any _ (Blk.below HP.out.r hC1 HP.out.r.lt)) ?_
  rintro e3 v2 ⟨rfl, hb2⟩
  refine ⟨_, rfl, fun F31 => ?_⟩
  have hC2 : Below w.heap.size w v2 := hC1.trans (hb2.mono hC1.size)
  refine lcp F31 rfl hC2 rfl (by omega) (want_yes F31 rfl (e := 33) rfl (by omega) (show _ = Value.bool true from by simp [upd, hs0, hs3, hs4])) (g := 15) (args := #[Value.agg #[.int .i64 d, .int .i64 u], Value.agg #[.int .i64 d, .int .i64 u]]) (by simp only [execOp, resolve, invoke, List.map_toArray, List.map_cons, List.map_nil, (F31.eval 38 (by omega)).trans (show _ = Value.agg #[.int .i64 d, .int .i64 u] from by simp [upd, hs0, hs3, hs4]), (F31.eval 43 (by omega)).trans (show _ = Value.agg #[.int .i64 d, .int .i64 u] from by simp [upd, hs0, hs3, hs4])]; simp [go_sem, Act.eval]) (same_any d u d u _) ?_
  rintro e4 v3 ⟨rfl, hb3⟩
  refine ⟨_, rfl, fun F32 => ?_⟩
  have hC3 : Below w.heap.size w v3 := hC2.trans (hb3.mono hC2.size)
  refine lyp F32 rfl hC3 rfl (by omega) (wanted_none rfl) (v := Value.bool true) (fun wr hwr => by simp only [execOp, (F32.eval 33 (by omega)).trans (show _ = Value.bool true from by simp [upd, hs0, hs3, hs4]), (F32.eval 44 (by omega)).trans (show _ = Value.bool (d == d && u == u) from by simp [upd, hs0, hs3, hs4])]; simp [go_sem, Act.eval]) fun F33 => ?_
  refine lyp F33 rfl hC3 rfl (by omega) (wanted_none rfl) (v := Value.bool true) (fun wr hwr => by simp only [execOp, (F33.eval 45 (by omega)).trans (show _ = Value.bool true from by simp [upd, hs0, hs3, hs4])]; first | rfl | simp [go_sem]) fun F34 => ?_
  refine lyp F34 rfl hC3 rfl (by omega) (want_yes F34 rfl (e := 46) rfl (by omega) (show _ = Value.bool true from by simp [upd, hs0, hs3, hs4])) (v := Value.pointer (some ⟨hp, 0, none⟩)) (fun wr hwr => by simp only [execOp, (F34.eval 0 (by omega)).trans (show _ = Value.pointer (some ⟨hp, 0, none⟩) from by simp [upd, hs0, hs3, hs4])]; first | rfl | simp [go_sem]) fun F35 => ?_
  refine lyp F35 rfl hC3 rfl (by omega) (want_yes F35 rfl (e := 46) rfl (by omega) (show _ = Value.bool true from by simp [upd, hs0, hs3, hs4])) (v := Value.pointer (some ⟨hp, 0, none⟩)) (fun wr hwr => by simp only [execOp, (F35.eval 47 (by omega)).trans (show _ = Value.pointer (some ⟨hp, 0, none⟩) from by simp [upd, hs0, hs3, hs4])]; first | rfl | simp [go_sem]) fun F36 => ?_
  refine lyp F36 rfl hC3 rfl (by omega) (want_yes F36 rfl (e := 46) rfl (by omega) (show _ = Value.bool true from by simp [upd, hs0, hs3, hs4])) (v := Value.pointer (some ⟨hp, 0, none⟩)) (fun wr hwr => by simp only [execOp, (F36.eval 48 (by omega)).trans (show _ = Value.pointer (some ⟨hp, 0, none⟩) from by simp [upd, hs0, hs3, hs4])]; first | rfl | simp [go_sem]) fun F37 => ?_
  refine lyp F37 rfl hC3 rfl (by omega) (want_yes F37 rfl (e := 46) rfl (by omega) (show _ = Value.bool true from by simp [upd, hs0, hs3, hs4])) (v := Value.pointer (some ⟨hl, 0, none⟩)) (fun wr hwr => by simp only [execOp, (F37.eval 49 (by omega)).trans (show _ = Value.pointer (some ⟨hp, 0, none⟩) from by simp [upd, hs0, hs3, hs4])]; simp [go_sem, ((hwr.cell (p := ⟨hp, 0, none⟩) hlp).trans f0p)]) fun F38 => ?_
  refine lcp F38 rfl hC3 rfl (by omega) (want_yes F38 rfl (e := 46) rfl (by omega) (show _ = Value.bool true from by simp [upd, hs0, hs3, hs4])) (g := 18) (args := #[Value.pointer (some ⟨hl, 0, none⟩)]) (by simp only [execOp, resolve, invoke, List.map_toArray, List.map_cons, List.map_nil, (F38.eval 50 (by omega)).trans (show _ = Value.pointer (some ⟨hl, 0, none⟩) from by simp [upd, hs0, hs3, hs4])]; simp [go_sem, Act.eval]) (held_any _ (Blk.below HP.out.l hC3 HP.out.l.lt)) ?_
  rintro e5 v4 ⟨rfl, rfl⟩
  refine ⟨_, rfl, fun F39 => ?_⟩
  have hC4 := hC3
  refine lyp F39 rfl hC4 rfl (by omega) (want_yes F39 rfl (e := 46) rfl (by omega) (show _ = Value.bool true from by simp [upd, hs0, hs3, hs4])) (v := Value.pointer (some ⟨hp, 0, none⟩)) (fun wr hwr => by simp only [execOp, (F39.eval 0 (by omega)).trans (show _ = Value.pointer (some ⟨hp, 0, none⟩) from by simp [upd, hs0, hs3, hs4])]; first | rfl | simp [go_sem]) fun F40 => ?_
  refine lyp F40 rfl hC4 rfl (by omega) (want_yes F40 rfl (e := 46) rfl (by omega) (show _ = Value.bool true from by simp [upd, hs0, hs3, hs4])) (v := Value.pointer (some ⟨hp, 0, none⟩)) (fun wr hwr => by simp only [execOp, (F40.eval 52 (by omega)).trans (show _ = Value.pointer (some ⟨hp, 0, none⟩) from by simp [upd, hs0, hs3, hs4])]; first | rfl | simp [go_sem]) fun F41 => ?_
  refine lyp F41 rfl hC4 rfl (by omega) (want_yes F41 rfl (e := 46) rfl (by omega) (show _ = Value.bool true from by simp [upd, hs0, hs3, hs4])) (v := Value.pointer (some ⟨hp, 1, none⟩)) (fun wr hwr => by simp only [execOp, (F41.eval 53 (by omega)).trans (show _ = Value.pointer (some ⟨hp, 0, none⟩) from by simp [upd, hs0, hs3, hs4])]; first | rfl | simp [go_sem]) fun F42 => ?_
  refine lyp F42 rfl hC4 rfl (by omega) (want_yes F42 rfl (e := 46) rfl (by omega) (show _ = Value.bool true from by simp [upd, hs0, hs3, hs4])) (v := Value.pointer (some ⟨hr, 0, none⟩)) (fun wr hwr => by simp only [execOp, (F42.eval 54 (by omega)).trans (show _ = Value.pointer (some ⟨hp, 1, none⟩) from by simp [upd, hs0, hs3, hs4])]; simp [go_sem, ((hwr.cell (p := ⟨hp, 1, none⟩) hlp).trans f1p)]) fun F43 => ?_
  refine lcp F43 rfl hC4 rfl (by omega) (want_yes F43 rfl (e := 46) rfl (by omega) (show _ = Value.bool true from by simp [upd, hs0, hs3, hs4])) (g := 54) (args := #[Value.pointer (some ⟨hr, 0, none⟩)]) (by simp only [execOp, resolve, invoke, List.map_toArray, List.map_cons, List.map_nil, (F43.eval 55 (by omega)).trans (show _ = Value.pointer (some ⟨hr, 0, none⟩) from by simp [upd, hs0, hs3, hs4])]; simp [go_sem, Act.eval]) (rheld_any _ (Blk.below HP.out.r hC4 HP.out.r.lt)) ?_
  rintro e6 v5 ⟨rfl, rfl⟩
  refine ⟨_, rfl, fun F44 => ?_⟩
  have hC5 := hC4
  refine lyp F44 rfl hC5 rfl (by omega) (want_yes F44 rfl (e := 46) rfl (by omega) (show _ = Value.bool true from by simp [upd, hs0, hs3, hs4])) (v := Value.bool true) (fun wr hwr => by simp only [execOp, (F44.eval 51 (by omega)).trans (show _ = Value.int .i64 x from by simp [upd, hs0, hs3, hs4]), (F44.eval 56 (by omega)).trans (show _ = Value.int .i64 x from by simp [upd, hs0, hs3, hs4])]; simp [go_sem, Act.eval]) fun F45 => ?_
  refine lyp F45 rfl hC5 rfl (by omega) (wanted_none rfl) (v := Value.bool true) (fun wr hwr => by simp only [execOp, (F45.eval 46 (by omega)).trans (show _ = Value.bool true from by simp [upd, hs0, hs3, hs4]), (F45.eval 57 (by omega)).trans (show _ = Value.bool true from by simp [upd, hs0, hs3, hs4])]; simp [go_sem, Act.eval]) fun F46 => ?_
  refine lyp F46 rfl hC5 rfl (by omega) (wanted_none rfl) (v := Value.bool true) (fun wr hwr => by simp only [execOp, (F46.eval 58 (by omega)).trans (show _ = Value.bool true from by simp [upd, hs0, hs3, hs4])]; first | rfl | simp [go_sem]) fun F47 => ?_
  refine ⟨fun _ => hC5, ?_⟩
  refine hK _ _ ?_
  clear F0 F1 F2 F3 F4 F5 F6 F7 F8 F9 F10 F11 F12 F13 F14 F15 F16 F17 F18 F19 F20 F21 F22 F23 F24 F25 F26 F27 F28 F29 F30 F31 F32 F33 F34 F35 F36 F37 F38 F39 F40 F41 F42 F43 F44 F45 F46 F47 hs0 hs3 hs4 hK
  simp only [Act.put, List.setIfInBounds_toArray, List.set_cons_succ, List.set_cons_zero]
  have HE : Hid _ := hC5
  clear hC0 hC1 hC2 hC3 hC4 hC5 hX
  go_wp2_with fail
  go_ret
  exact ⟨rfl, HE.out⟩
end Go.Proofs.YtgnkkpcklljffaaDoor
