import Derived.Test.YtcjgicfmfjomgaaLk1
import Derived.Test.YtcjgicfmfjomgaaArgsB
import Derived.Test.YtcjgicfmfjomgaaSp
import Derived.Test.YtcjgicfmfjomgaaAlv
import Derived.Test.YtcjgicfmfjomgaaBeS
namespace Go.Proofs.Ytcjgicfmfjomgaa
open Go.RowKit Go.PlainAid Go.MapKept
/-- A move that came in. -/
structure Mv where
  k : Int
  w : Int
  a : Int
  d : Dv
def Mv.row (m : Mv) : List Value := [.int .i64 m.k, .int .i64 m.w, .int .i64 m.a, m.d.v]
def Mv.ok (W : World) (m : Mv) : Prop := (-9223372036854775808 ≤ m.k ∧ m.k ≤ 9223372036854775807) ∧ (-9223372036854775808 ≤ m.w ∧ m.w ≤ 9223372036854775807) ∧ (-9223372036854775808 ≤ m.a ∧ m.a ≤ 9223372036854775807) ∧ By W m.d.v m.d.s ∧ m.d.s.length ≤ 140737488351232
end Go.Proofs.Ytcjgicfmfjomgaa
namespace Go.Proofs.Ytcjgicfmfjomgaa
open Go.ChangeShapes Go.WideShapes Go.ChangeAt Go.RowKit Go.WideMaps Go.WideElems Go.PlainAid
set_option linter.unusedVariables false
theorem cells54 : Try.prog.cellsOf 54 = 4 := by kernel_rfl
theorem uncons {α : Type} {l : List α} {n : Nat} (h : l.length = n + 1) : ∃ a t, l = a :: t ∧ t.length = n := by
  cases l with
  | nil => simp at h
  | cons a t => exact ⟨a, t, rfl, by simpa using h⟩
def In64 (z : Int) : Prop := (-9223372036854775808 : Int) ≤ z ∧ z ≤ 9223372036854775807
theorem cells3' : Try.prog.cellsOf 3 = 1 := by kernel_rfl
section
variable {H : Type} {enc : TypeId × Value → H} {W : World} {fuel : Nat} {cs : List Value} {x : DataW H × List MemPlace}
set_option maxRecDepth 100000
set_option maxHeartbeats 1600000
theorem t_int {t : TypeId} (hu : Try.prog.underlying t = some (.int .i64)) (h : DataW.trod enc Try.prog W 0 (fun _ => true) true fuel t cs = some x) : ∃ z, cs = [.int .i64 z] ∧ In64 z := by
  obtain ⟨z, e, _, hw⟩ := DataW.trod_int hu h
  have := bounds_i64 hw
  exact ⟨z, e, by unfold In64; omega⟩
theorem w_part {t t' : TypeId} {fs : Array Field} {xs : List (DataW H × List MemPlace)} {i : Nat} {y : DataW H × List MemPlace} (hu : Try.prog.underlying t = some (.struct fs)) (hx : x = (.agg (xs.map (·.1)), xs.flatMap (·.2))) (hw : ∀ n ∈ x.1.weights Try.prog t, n ≤ reachBytes)
    (ht : (fs.toList.map (·.type))[i]? = some t') (hy : xs[i]? = some y) : ∀ n ∈ y.1.weights Try.prog t', n ≤ reachBytes := by
  intro n hn
  refine hw n ?_
  rw [hx]
  simp only [DataW.weights, hu]
  exact DataW.weights_mem_each ht (by rw [List.getElem?_map, hy]; rfl) n hn
theorem t_mv (h : DataW.trod enc Try.prog W 0 (fun _ => true) true fuel 54 cs = some x) (hw : ∀ n ∈ x.1.weights Try.prog 54, n ≤ reachBytes) :
    ∃ o : Mv, cs = o.row ∧ o.ok W := by
  obtain ⟨xs, mm, _, hx, hl, hxl, hf⟩ := DataW.trod_struct Try.underlying54 h
  have hxl' : xs.length = 4 := hxl
  rw [cells54] at hl
  obtain ⟨c0, l1, rfl, k1⟩ := uncons hl
  obtain ⟨c1, l2, rfl, k2⟩ := uncons k1
  obtain ⟨c2, l3, rfl, k3⟩ := uncons k2
  obtain ⟨c3, l4, rfl, k4⟩ := uncons k3
  obtain rfl := List.eq_nil_of_length_eq_zero k4
  have y0 : xs[0]? = some xs[0] := List.getElem?_eq_getElem (by omega)
  have h0 : DataW.trod enc Try.prog W 0 (fun _ => true) true mm 3 [c0] = some xs[0] := by
    have e : DataW.trod enc Try.prog W 0 (fun _ => true) true mm 3 (List.take (Try.prog.cellsOf 3) (List.drop 0 [c0, c1, c2, c3])) = xs[0]? := hf 0 _ rfl
    rw [cells3', y0] at e
    exact e
  obtain ⟨z0, e0, b0⟩ := t_int Try.underlying3 h0
  have y1 : xs[1]? = some xs[1] := List.getElem?_eq_getElem (by omega)
  have h1 : DataW.trod enc Try.prog W 0 (fun _ => true) true mm 3 [c1] = some xs[1] := by
    have e : DataW.trod enc Try.prog W 0 (fun _ => true) true mm 3 (List.take (Try.prog.cellsOf 3) (List.drop 1 [c0, c1, c2, c3])) = xs[1]? := hf 1 _ rfl
    rw [cells3', y1] at e
    exact e
  obtain ⟨z1, e1, b1⟩ := t_int Try.underlying3 h1
  have y2 : xs[2]? = some xs[2] := List.getElem?_eq_getElem (by omega)
  have h2 : DataW.trod enc Try.prog W 0 (fun _ => true) true mm 3 [c2] = some xs[2] := by
    have e : DataW.trod enc Try.prog W 0 (fun _ => true) true mm 3 (List.take (Try.prog.cellsOf 3) (List.drop 2 [c0, c1, c2, c3])) = xs[2]? := hf 2 _ rfl
    rw [cells3', y2] at e
    exact e
  obtain ⟨z2, e2, b2⟩ := t_int Try.underlying3 h2
  have y3 : xs[3]? = some xs[3] := List.getElem?_eq_getElem (by omega)
  have h3 : DataW.trod enc Try.prog W 0 (fun _ => true) true mm 41 [c3] = some xs[3] := by
    have e : DataW.trod enc Try.prog W 0 (fun _ => true) true mm 41 (List.take (Try.prog.cellsOf 41) (List.drop 3 [c0, c1, c2, c3])) = xs[3]? := hf 3 _ rfl
    rw [cells41, y3] at e
    exact e
  obtain ⟨d3, e3, b3, b4⟩ := t_bytes h3 (w_part Try.underlying54 hx hw (i := 3) rfl y3)
  clear hf h hl
  cases e0; cases e1; cases e2; cases e3
  exact ⟨⟨z0, z1, z2, d3⟩, rfl, b0, b1, b2, b3, b4⟩
end
end Go.Proofs.Ytcjgicfmfjomgaa
namespace Go.Proofs.Ytcjgicfmfjomgaa
open Go.RowKit Go.PlainAid Go.MapKept
set_option linter.unusedVariables false
set_option linter.unusedSimpArgs false
theorem load4at {w : World} {b o : Nat} {f t q v : Value} (h : w.cell? ⟨b, o, none⟩ = some f ∧ w.cell? ⟨b, o + 1, none⟩ = some t ∧ w.cell? ⟨b, o + 2, none⟩ = some q ∧ w.cell? ⟨b, o + 3, none⟩ = some v) : (Instr.loadAt 54 (.pointer (some ⟨b, o, none⟩))).run Try.prog w = .ok (.agg #[f, t, q, v]) w := by
  obtain ⟨h0, h1, h2, h3⟩ := h
  simp [go_sem, h0, h1, h2, h3]
theorem load2 {w : World} {b : Nat} {f t : Value} (h : Blk w b #[f, t] 51) : (Instr.loadAt 51 (.pointer (some ⟨b, 0, none⟩))).run Try.prog w = .ok (.agg #[f, t]) w := by
  simp only [Instr.loadAt, Instr.sureAddr, Sem.run_bind, Sem.run_pure, Result.andThen_ok, run_loadVar_row w b 51 51 _ (0, 0) _ h Try.underlying51 rfl (by kernel_rfl)]
/-- A line in play, and the windows beside it. -/
structure PL (W : World) (L xb nb : Nat) (win : Nat → Nat) (n t : Nat) (wr : World) : Prop where
  ex : ∃ S col, LNM L xb S col wr ∧ LInv S win n t ∧ S.sent.length ≤ 400 ∧ 8 ≤ col nb
  b : Blk wr nb #[.int .i64 (win 0 : Int), .int .i64 (win 1 : Int)] 51
  bl : Below W.heap.size W wr
  lo : W.heap.size ≤ L
theorem PL.more {W : World} {L xb nb : Nat} {win : Nat → Nat} {n t : Nat} {wr wr' : World} (h : PL W L xb nb win n t wr) (hb : Below wr.heap.size wr wr') : PL W L xb nb win n t wr' := by
  obtain ⟨S, col, h1, h2, h3, h4⟩ := h.ex
  exact ⟨⟨S, col, h1.more hb, h2, h3, h4⟩, Blk.below h.b hb h.b.lt, h.bl.trans (hb.mono h.bl.size), h.lo⟩
theorem pl_step {W : World} {L xb nb : Nat} {win : Nat → Nat} {n t : Nat} {wr : World} (h : PL W L xb nb win n t wr) (ht : t + 1 ≤ 400) (m : Mv) (hm : m.ok W) :
    Calls Try.prog 22 #[.pointer (some ⟨xb, 0, none⟩), .agg #[.int .i64 m.k, .int .i64 m.w, .int .i64 m.a, m.d.v], .agg #[.int .i64 (win 0 : Int), .int .i64 (win 1 : Int)]] wr fun e w' => e = .returned (.bool true) ∧ PL W L xb nb win n (t + 1) w' := by
  obtain ⟨S, col, h1, h2, h3, h4⟩ := h.ex
  obtain ⟨m1, m2, m3, m4, m5⟩ := hm
  refine (step_any m.k m.w m.a m.d.v m.d.s wr m1 m2 m3 h1 h2 ht h3 (fun wz hb => m4.keep (h.bl.trans (hb.mono h.lo))) m5).mono ?_
  rintro e w' ⟨rfl, S', col', g1, g2, g3, g4, g5, g6⟩
  refine ⟨rfl, ⟨S', col', g1, g2, g3, by rw [g6 nb h.b.lt]; exact h4⟩, (g5 nb h.b.lt h4).trans h.b, h.bl.trans (g4.mono h.lo), h.lo⟩
theorem pl_sound0 {W : World} {L xb nb : Nat} {win : Nat → Nat} {n t : Nat} {wr : World} (h : PL W L xb nb win n t wr) (ht : t ≤ 400) :
    Calls Try.prog 23 #[.pointer (some ⟨xb, 0, none⟩), .int .i64 0, .int .i64 (win 0 : Int)] wr fun e w' => e = .returned (.bool true) ∧ PL W L xb nb win n t w' := by
  obtain ⟨S, col, h1, h2, h3, h4⟩ := h.ex
  refine (sound_0 wr h1 h2 ht).mono ?_
  rintro e w' ⟨rfl, hb⟩
  exact ⟨rfl, h.more hb⟩
theorem pl_sound1 {W : World} {L xb nb : Nat} {win : Nat → Nat} {n t : Nat} {wr : World} (h : PL W L xb nb win n t wr) (ht : t ≤ 400) :
    Calls Try.prog 23 #[.pointer (some ⟨xb, 0, none⟩), .int .i64 1, .int .i64 (win 1 : Int)] wr fun e w' => e = .returned (.bool true) ∧ PL W L xb nb win n t w' := by
  obtain ⟨S, col, h1, h2, h3, h4⟩ := h.ex
  refine (sound_1 wr h1 h2 ht).mono ?_
  rintro e w' ⟨rfl, hb⟩
  exact ⟨rfl, h.more hb⟩
set_option maxRecDepth 100000 in
set_option maxHeartbeats 6400000 in
theorem once_law (x0 x1 x2 : Int) (h0 : -9223372036854775808 ≤ x0 ∧ x0 ≤ 9223372036854775807) (h1 : -9223372036854775808 ≤ x1 ∧ x1 ≤ 9223372036854775807) (h2 : -9223372036854775808 ≤ x2 ∧ x2 ≤ 9223372036854775807) (ao : Option Addr) (M cap : Nat) (os : List Mv) (W : World) (hl : os.length = M) (hMx : M ≤ 9223372036854775807)
    (hok : ∀ o ∈ os, o.ok W) (hat : 0 < M → ∃ b off, ao = some ⟨b, off, none⟩ ∧ ∀ i o, os[i]? = some o → RowAt W b (off + i * 4) o.row) :
    Calls Try.prog 5 #[.int .i64 x0, .int .i64 x1, .int .i64 x2, .slice ao M cap] W fun e w' => e = .returned (.bool true) ∧ Below W.heap.size W w' := by
  have HA : Hid _ := alive_any W
  have HW0 : Hid (∀ w, Calls Try.prog 15 #[.int .i64 x0, .int .i64 1, .int .i64 16] w _) := fun w => within_16 x0 w h0
  have HW1 : Hid (∀ w, Calls Try.prog 15 #[.int .i64 x1, .int .i64 1, .int .i64 16] w _) := fun w => within_16 x1 w h1
  have HBG : Hid (∀ w, Calls Try.prog 21 #[.int .i64 x0, .int .i64 x1, .int .i64 x2] w _) := fun w => begunS_any x0 x1 x2 w h0 h1 h2
  have HOK : Hid (∀ o ∈ os, o.ok W) := hok
  have HAT : Hid (0 < M → ∃ b off, ao = some ⟨b, off, none⟩ ∧ ∀ i o, os[i]? = some o → RowAt W b (off + i * 4) o.row) := hat
  have HL : Hid (os.length = M) := hl
  obtain ⟨wa, hwa⟩ : ∃ wa, wa = wi x0 16 := ⟨_, rfl⟩
  obtain ⟨wb, hwb⟩ : ∃ wb, wb = wi x1 16 := ⟨_, rfl⟩
  obtain ⟨n, hn⟩ : ∃ n, n = wi x2 20 := ⟨_, rfl⟩
  rw [← hwa] at HW0 HBG
  rw [← hwb] at HW1 HBG
  rw [← hn] at HBG
  clear hok hat hl hwa hwb hn h0 h1 h2
  go_enter Try.func5, Try.ntmps5
  go_wp2_with fail
  refine Calls.mono HA.out ?_
  rintro e w1 ⟨rfl, hb1⟩
  have HB1 : Hid (Below W.heap.size W w1) := hb1
  clear hb1 HA
  go_wp2_with fail
  refine Calls.mono (HBG.out _) ?_
  rintro e w2 ⟨xb, S, col, rfl, hL2, hse, hI2, hb2⟩
  have HL2 : Hid (LNM w1.heap.size xb S col w2) := hL2
  have HI2 : Hid (LInv S (winOf wa wb) n 0) := hI2
  have HB2 : Hid (Below w1.heap.size w1 w2) := hb2
  have HSE : Hid (S.sent = []) := hse
  clear hL2 hI2 hb2 HBG hse
  go_wp2_with fail
  refine Calls.mono (HW0.out _) ?_
  rintro e w1' ⟨rfl, hw1'⟩
  replace hw1' := hw1'.symm
  subst hw1'
  go_wp2_with fail
  refine Calls.mono (HW1.out _) ?_
  rintro e w1' ⟨rfl, hw1'⟩
  replace hw1' := hw1'.symm
  subst hw1'
  clear HW0 HW1
  go_upto_region 6 with fail
  obtain ⟨w3, hw3⟩ : ∃ w3, w3 = w2.alloc (Obj.cells #[Value.int IntKind.i64 (wa : Int), Value.int IntKind.i64 (wb : Int)] 51) := ⟨_, rfl⟩
  obtain ⟨nb, hnb⟩ : ∃ nb, nb = w2.heap.size := ⟨_, rfl⟩
  have hb3 : Below w2.heap.size w2 w3 := by rw [hw3]; exact (Below.refl _ _).alloc (Nat.le_refl _) _
  have HP3 : Hid (PL W w1.heap.size xb nb (winOf wa wb) n 0 w3) := by
    refine ⟨⟨S, fun k => if k < w2.heap.size then col k else 9, (HL2.out.recol (fun k hk => if_pos hk)).more hb3, HI2.out, by rw [HSE.out]; simp, ?_⟩, ?_, HB1.out.trans ((HB2.out.mono HB1.out.size).trans (hb3.mono (Nat.le_trans HB1.out.size HB2.out.size))), HB1.out.size⟩
    · show 8 ≤ if nb < w2.heap.size then col nb else 9
      rw [if_neg (by omega)]
      omega
    · rw [hw3, hnb]
      exact heap_alloc_new w2 _
  rw [← hw3, ← hnb]
  clear hw3 hnb hb3 HL2 HI2 HB2 HSE HB1
  obtain ⟨L, hL⟩ : ∃ L, L = w1.heap.size := ⟨_, rfl⟩
  rw [← hL] at HP3
  clear hL
  go_wp2_with fail
  go_loopw [12] (fun s12 wr => ∃ i : Nat, i ≤ M ∧ i ≤ 300 ∧ s12 = .int .i64 (i : Int) ∧ PL W L xb nb (winOf wa wb) n i wr) (fun s12 _ => 300 - (intOf s12).toNat)
  case atStart => exact ⟨0, by omega, by omega, rfl, HP3.out⟩
  case round =>
    clear HP3
    obtain ⟨i, hi, hi3, rfl, hP⟩ := hrel
    have HP : Hid (PL W L xb nb (winOf wa wb) n i wr) := hP
    clear hP
    by_cases hiM : i < M
    · by_cases hi300 : i < 300
      · obtain ⟨ab, aof, hao, hrow⟩ := HAT.out (by omega)
        obtain ⟨o, ho⟩ : ∃ o, os[i]? = some o := ⟨os[i]'(by rw [HL.out]; exact hiM), List.getElem?_eq_getElem _⟩
        have hr := hrow i o ho
        have habl : ab < W.heap.size := hr.lt (by simp [Mv.row])
        have HCF : Hid (∀ wz, Below W.heap.size W wz → Blk wz nb #[.int .i64 (winOf wa wb 0 : Int), .int .i64 (winOf wa wb 1 : Int)] 51 → (wz.cell? ⟨ab, aof + i * 4, none⟩ = some (.int .i64 o.k) ∧ wz.cell? ⟨ab, aof + i * 4 + 1, none⟩ = some (.int .i64 o.w) ∧ wz.cell? ⟨ab, aof + i * 4 + 2, none⟩ = some (.int .i64 o.a) ∧ wz.cell? ⟨ab, aof + i * 4 + 3, none⟩ = some (o.d.v)) ∧ Blk wz nb #[.int .i64 (winOf wa wb 0 : Int), .int .i64 (winOf wa wb 1 : Int)] 51) := fun wz hb hn => by
          have h3 := hr.below hb habl
          exact ⟨⟨h3 0 _ rfl, h3 1 _ rfl, h3 2 _ rfl, h3 3 _ rfl⟩, hn⟩
        have HSTP : Hid _ := pl_step (HP.out.more (Below.refl _ _).drew) (by omega) o (HOK.out o (List.mem_of_getElem? ho))
        clear hr habl ho hrow
        have HAO : Hid (ao = some ⟨ab, aof, none⟩) := hao
        subst hao
        go_upto_region 9 with fail
        rename_i K hK
        try rw [show ∀ a : Act, a.put none undef = a from fun _ => rfl]
        refine wp_region_mix (fun wz => (wz.cell? ⟨ab, aof + i * 4, none⟩ = some (.int .i64 o.k) ∧ wz.cell? ⟨ab, aof + i * 4 + 1, none⟩ = some (.int .i64 o.w) ∧ wz.cell? ⟨ab, aof + i * 4 + 2, none⟩ = some (.int .i64 o.a) ∧ wz.cell? ⟨ab, aof + i * 4 + 3, none⟩ = some (o.d.v)) ∧ Blk wz nb #[.int .i64 (winOf wa wb 0 : Int), .int .i64 (winOf wa wb 1 : Int)] 51) (fun i => i == 6 || i == 99) 99 (by kernel_rfl) rfl (by kernel_rfl) (by kernel_rfl) (by kernel_rfl) ?_
        refine withFrP (N := 57) rfl ?_
        intro f0 F0 hff
        have e10 : f0 10 = Value.pointer (some ⟨xb, 0, none⟩) := hff 10
        have e3 : f0 3 = Value.slice (some ⟨ab, aof, none⟩) M cap := hff 3
        have e12 : f0 12 = Value.int .i64 (i : Int) := hff 12
        have e11 : f0 11 = Value.pointer (some ⟨nb, 0, none⟩) := hff 11
        clear hff
        have HCC : (fun wz => (wz.cell? ⟨ab, aof + i * 4, none⟩ = some (.int .i64 o.k) ∧ wz.cell? ⟨ab, aof + i * 4 + 1, none⟩ = some (.int .i64 o.w) ∧ wz.cell? ⟨ab, aof + i * 4 + 2, none⟩ = some (.int .i64 o.a) ∧ wz.cell? ⟨ab, aof + i * 4 + 3, none⟩ = some (o.d.v)) ∧ Blk wz nb #[.int .i64 (winOf wa wb 0 : Int), .int .i64 (winOf wa wb 1 : Int)] 51) (({ wr with drawn := wr.drawn + 1 } : World)) := HCF.out wr HP.out.bl HP.out.b
        refine lyp F0 rfl HCC rfl (by omega) (wanted_none rfl) (v := Value.pointer (some ⟨xb, 0, none⟩)) (fun wr hwr => by simp only [execOp, (F0.eval 10 (by omega)).trans (show _ = Value.pointer (some ⟨xb, 0, none⟩) from by simp [upd, e10, e3, e12, e11])]; first | rfl | simp [go_sem]) fun Fp1 => ?_
        refine lyp Fp1 rfl HCC rfl (by omega) (wanted_none rfl) (v := Value.slice (some ⟨ab, aof, none⟩) M cap) (fun wr hwr => by simp only [execOp, (Fp1.eval 3 (by omega)).trans (show _ = Value.slice (some ⟨ab, aof, none⟩) M cap from by simp [upd, e10, e3, e12, e11])]; first | rfl | simp [go_sem]) fun Fp2 => ?_
        refine lyp Fp2 rfl HCC rfl (by omega) (wanted_none rfl) (v := Value.int .i64 (i : Int)) (fun wr hwr => by simp only [execOp, (Fp2.eval 12 (by omega)).trans (show _ = Value.int .i64 (i : Int) from by simp [upd, e10, e3, e12, e11])]; first | rfl | simp [go_sem]) fun Fp3 => ?_
        refine lyp Fp3 rfl HCC rfl (by omega) (wanted_none rfl) (v := Value.pointer (some ⟨ab, aof + i * 4, none⟩)) (fun wr hwr => by simp only [execOp, (Fp3.eval 40 (by omega)).trans (show _ = Value.slice (some ⟨ab, aof, none⟩) M cap from by simp [upd, e10, e3, e12, e11]), (Fp3.eval 41 (by omega)).trans (show _ = Value.int .i64 (i : Int) from by simp [upd, e10, e3, e12, e11])]; simp only [Sem.run_bind, Sem.run_pure, Result.andThen_ok, idx_run 48 54 4 Try.underlying48 (by kernel_rfl) _ ab aof M cap i hiM, Nat.zero_add, Nat.mul_one]; try rfl) fun Fp4 => ?_
        refine lyp Fp4 rfl HCC rfl (by omega) (wanted_none rfl) (v := Value.agg #[.int .i64 o.k, .int .i64 o.w, .int .i64 o.a, o.d.v]) (fun wr hwr => by simp only [execOp, (Fp4.eval 42 (by omega)).trans (show _ = Value.pointer (some ⟨ab, aof + i * 4, none⟩) from by simp [upd, e10, e3, e12, e11])]; simp only [Sem.run_bind, Sem.run_pure, Result.andThen_ok, load4at hwr.1]; try rfl) fun Fp5 => ?_
        refine lyp Fp5 rfl HCC rfl (by omega) (wanted_none rfl) (v := Value.agg #[.int .i64 (winOf wa wb 0 : Int), .int .i64 (winOf wa wb 1 : Int)]) (fun wr hwr => by simp only [execOp, (Fp5.eval 11 (by omega)).trans (show _ = Value.pointer (some ⟨nb, 0, none⟩) from by simp [upd, e10, e3, e12, e11])]; simp only [Sem.run_bind, Sem.run_pure, Result.andThen_ok, load2 hwr.2]; try rfl) fun Fp6 => ?_
        refine lcp Fp6 rfl HCC rfl (by omega) (wanted_none rfl) (g := 22) (args := #[Value.pointer (some ⟨xb, 0, none⟩), Value.agg #[.int .i64 o.k, .int .i64 o.w, .int .i64 o.a, o.d.v], Value.agg #[.int .i64 (winOf wa wb 0 : Int), .int .i64 (winOf wa wb 1 : Int)]]) (by simp only [execOp, resolve, invoke, List.map_toArray, List.map_cons, List.map_nil, (Fp6.eval 39 (by omega)).trans (show _ = Value.pointer (some ⟨xb, 0, none⟩) from by simp [upd, e10, e3, e12, e11]), (Fp6.eval 43 (by omega)).trans (show _ = Value.agg #[.int .i64 o.k, .int .i64 o.w, .int .i64 o.a, o.d.v] from by simp [upd, e10, e3, e12, e11]), (Fp6.eval 44 (by omega)).trans (show _ = Value.agg #[.int .i64 (winOf wa wb 0 : Int), .int .i64 (winOf wa wb 1 : Int)] from by simp [upd, e10, e3, e12, e11])]; simp [go_sem, Act.eval]) HSTP.out ?_
        rintro e w5 ⟨rfl, hP5⟩
        refine ⟨_, rfl, fun Fp7 => ?_⟩
        have HC5 : (fun wz => (wz.cell? ⟨ab, aof + i * 4, none⟩ = some (.int .i64 o.k) ∧ wz.cell? ⟨ab, aof + i * 4 + 1, none⟩ = some (.int .i64 o.w) ∧ wz.cell? ⟨ab, aof + i * 4 + 2, none⟩ = some (.int .i64 o.a) ∧ wz.cell? ⟨ab, aof + i * 4 + 3, none⟩ = some (o.d.v)) ∧ Blk wz nb #[.int .i64 (winOf wa wb 0 : Int), .int .i64 (winOf wa wb 1 : Int)] 51) w5 := HCF.out w5 hP5.bl hP5.b
        refine lyp Fp7 rfl HC5 rfl (by omega) (wanted_none rfl) (v := Value.bool false) (fun wr hwr => by simp only [execOp, (Fp7.eval 45 (by omega)).trans (show _ = Value.bool true from by simp [upd, e10, e3, e12, e11])]; simp [go_sem, Act.eval]) fun Fp8 => ?_
        refine ⟨fun _ => HC5, ?_⟩
        refine hK _ _ ?_
        clear F0 Fp1 Fp2 Fp3 Fp4 Fp5 Fp6 Fp7 Fp8 e10 e3 e12 e11 HCC HC5
        simp only [Act.put, List.setIfInBounds_toArray, List.set_cons_succ, List.set_cons_zero]
        have HP5 : Hid (PL W L xb nb (winOf wa wb) n (i + 1) w5) := hP5
        clear hP5 HSTP HCF
        go_wp2_with fail
        go_roundw
        case rel => exact ⟨i + 1, by omega, by omega, by go_num, HP5.out⟩
        case measure => simp [intOf]; omega
      · have hi3' : ¬ (i : Int) < 300 := by omega
        have n0 : wr.cell? ⟨nb, 0, none⟩ = some (.int .i64 (winOf wa wb 0 : Int)) := HP.out.b.cell 0
        go_wp2_with fail
        refine Calls.mono (pl_sound0 HP.out (by omega)) ?_
        rintro e w8 ⟨rfl, hP8⟩
        have HP8 : Hid (PL W L xb nb (winOf wa wb) n i w8) := hP8
        have n1 : w8.cell? ⟨nb, 1, none⟩ = some (.int .i64 (winOf wa wb 1 : Int)) := hP8.b.cell 1
        clear hP8 n0
        go_wp2_with fail
        refine Calls.mono (pl_sound1 HP8.out (by omega)) ?_
        rintro e w9 ⟨rfl, hP9⟩
        have HP9 : Hid (Below W.heap.size W w9) := hP9.bl
        clear hP9 n1
        go_wp2_with fail
        go_ret
        exact ⟨rfl, HP9.out⟩
    · have hiM' : ¬ (i : Int) < (M : Int) := by omega
      have n0 : wr.cell? ⟨nb, 0, none⟩ = some (.int .i64 (winOf wa wb 0 : Int)) := HP.out.b.cell 0
      go_wp2_with fail
      refine Calls.mono (pl_sound0 HP.out (by omega)) ?_
      rintro e w8 ⟨rfl, hP8⟩
      have HP8 : Hid (PL W L xb nb (winOf wa wb) n i w8) := hP8
      have n1 : w8.cell? ⟨nb, 1, none⟩ = some (.int .i64 (winOf wa wb 1 : Int)) := hP8.b.cell 1
      clear hP8 n0
      go_wp2_with fail
      refine Calls.mono (pl_sound1 HP8.out (by omega)) ?_
      rintro e w9 ⟨rfl, hP9⟩
      have HP9 : Hid (Below W.heap.size W w9) := hP9.bl
      clear hP9 n1
      go_wp2_with fail
      go_ret
      exact ⟨rfl, HP9.out⟩
end Go.Proofs.Ytcjgicfmfjomgaa
namespace Go.Proofs.Ytcjgicfmfjomgaa.linkOnce
open Go.ChangeShapes Go.WideShapes Go.ChangeAt Go.RowKit Go.WideMaps Go.WideElems

set_option maxRecDepth 100000 in
set_option maxHeartbeats 1600000 in
theorem contract (H : Type) (enc : TypeId × Value → H) (W : World) (base : Nat) (args : Array Value) (ds gs : List (DataW H)) (before : List MemPlace)
    (hval : ∀ (j : Nat) t v, Try.f5.params[j]? = some t → args[j]? = some v → Value.okWide Try.prog W .any base t v)
    (hW : DataW.Whole enc Try.prog Try.f5.params.toList Rows.linkOnceSpec.vars false W args.toList ds gs before)
    (hsz : (DataW.weightsEach Try.prog (Try.f5.params.toList ++ Rows.linkOnceSpec.plain.varTypes Try.prog) (ds ++ gs)).all (· ≤ reachBytes) = true) :
    Calls Try.prog 5 args W fun e W' => ∃ v, e = .returned v ∧ Rows.linkOnceSpec.post enc Try.prog Try.f5 false true false false W args v W' := by
  have hW' := hW
  obtain ⟨p, q, hA0, hV, rfl, hfz, hnd⟩ := hW
  have hA : DataW.TrodAll enc Try.prog W 0 (fun _ => true) true Try.f5.params.toList args.toList ds p := hA0
  rw [Try.params5] at hA hval
  obtain ⟨v0, vs0, d0, ds0, p0, q0, hargs, rfl, rfl, h0, r0⟩ := trodAll_cons hA
  obtain ⟨v1, vs1, d1, ds1, p1, q1, rfl, rfl, rfl, h1, r1⟩ := trodAll_cons r0
  obtain ⟨v2, vs2, d2, ds2, p2, q2, rfl, rfl, rfl, h2, r2⟩ := trodAll_cons r1
  obtain ⟨v3, vs3, d3, ds3, p3, q3, rfl, rfl, rfl, h3, r3⟩ := trodAll_cons r2
  obtain ⟨rfl, rfl, rfl⟩ := trodAll_nil r3
  obtain rfl : args = #[v0, v1, v2, v3] := by cases args; simp_all
  obtain ⟨rfl, rfl⟩ := trodVars_none hV
  clear hA0 r0 r1 r2 r3 hA
  obtain ⟨z0, rfl, rfl, rfl, w0⟩ := open_int Try.underlying3 (hval 0 3 v0 rfl rfl) h0
  obtain ⟨z1, rfl, rfl, rfl, w1⟩ := open_int Try.underlying3 (hval 1 3 v1 rfl rfl) h1
  obtain ⟨z2, rfl, rfl, rfl, w2⟩ := open_int Try.underlying3 (hval 2 3 v2 rfl rfl) h2
  have hlt3 : ∀ x ∈ p3, x.block < W.heap.size := fun x hx => hW'.lt x (by simp [hx])
  have hw3 : ∀ n ∈ d3.weights Try.prog 48, n ≤ reachBytes := fun n hn => by
    have := List.all_eq_true.1 hsz n (DataW.weights_mem_each (j := 3) (t := 48) (d := d3) (by rw [Try.params5]; rfl) rfl n hn)
    simpa using this
  obtain ⟨ao3, N3, cap3, os3, rfl, hl3, hnc3, hcm3, hok3, hnl3, hat3⟩ := open_rows 48 54 4 Mv.row (Mv.ok W) Try.underlying48 cells54 (by decide) (fun _ => rfl) (fun _ _ _ h hw => t_mv h hw) (hval 3 48 v3 rfl rfl) h3 hw3
  refine (once_law z0 z1 z2 (bounds_i64 w0) (bounds_i64 w1) (bounds_i64 w2) ao3 N3 cap3 os3 W hl3 (by unfold maxLen at hcm3; omega) hok3 hat3).mono fun e W' ⟨he, hbl⟩ => ?_
  subst he
  exact ⟨_, rfl, _, _, _, [], _, [], hW', trodAll_cons_mk (shut_bool Try.underlying4 _) trodAll_mk0, trodAll_cons_mk (shut_int Try.underlying3 w0) (trodAll_cons_mk (shut_int Try.underlying3 w1) (trodAll_cons_mk (shut_int Try.underlying3 w2) (trodAll_cons_mk (Below.trod laidOut (by kernel_rfl) (of_decide_eq_true (by kernel_rfl)) h3 hbl hlt3) trodAll_mk0))), rfl, hbl.frame _, fun h => by cases h⟩

set_option maxRecDepth 100000 in
theorem lifted (os : Os) (started : os.Started) (H : Type) (enc : TypeId × Value → H) :
    ReturnsInHanded {} Try.checked os 5 .any (Rows.linkOnceSpec.pre6 enc Try.prog Try.f5 Rows.linkOnceRow.domain false) (Rows.linkOnceSpec.post enc Try.prog Try.f5 false true false false) := by
  refine returnsInHanded_of_change_sized (C := Try.checked) (s := Rows.linkOnceSpec) own started (by kernel_rfl) Try.func5
    (ChangeSpec.witness6 (enc := enc) (C := Try.checked) (s := Rows.linkOnceSpec) false ⟨#[], #[.int .i64 0, .int .i64 0, .int .i64 0, .slice none 0 0], []⟩ 8 (by kernel_rfl) (by kernel_rfl) (by kernel_rfl) (by kernel_rfl)) ?_
  intro W base args ds gs before hval hW _ hsz _
  exact contract H enc W base args ds gs before hval hW hsz

theorem said : Rows.LinkOnceSaid :=
  OpenClaim.holds_of_wide 5 Try.f5 rfl rfl rfl rfl rfl rfl rfl ⟨rfl, rfl, rfl, rfl, rfl⟩ rfl rfl rfl rfl rfl (by kernel_rfl) Try.func5 (by kernel_rfl)
    (of_decide_eq_true (by kernel_rfl)) (by unfold Func.isWrapper; first | (rw [if_pos (by decide +kernel)]; kernel_rfl) | (rw [if_neg (by decide +kernel)]; exact ⟨rfl, rfl⟩))
    (fun os started H enc _ => lifted os started H enc)
end Go.Proofs.Ytcjgicfmfjomgaa.linkOnce

namespace Go.Proofs.Ytcjgicfmfjomgaa
theorem linkOnce_said : Rows.LinkOnceSaid := linkOnce.said
end Go.Proofs.Ytcjgicfmfjomgaa
