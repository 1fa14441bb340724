import Derived.Test.YtcjgicfmfjomgaaLk1
import Derived.Test.YtcjgicfmfjomgaaArgsB
import Derived.Test.YtcjgicfmfjomgaaSp
import Derived.Test.YtcjgicfmfjomgaaAlv
import Derived.Test.YtcjgicfmfjomgaaBeS
import Derived.Test.YtcjgicfmfjomgaaIn0
import Derived.Test.YtcjgicfmfjomgaaSp1
import Derived.Test.YtcjgicfmfjomgaaSp2
namespace Go.Proofs.Ytcjgicfmfjomgaa
open Go.RowKit Go.PlainAid Go.MapKept
/-- A move that came in. -/
structure Mv where
  k : Int
  w : Int
  a : Int
  d : Dv
def Mv.row (m : Mv) : List Value := [.int .i64 m.k, .int .i64 m.w, .int .i64 m.a, m.d.v]
def Mv.ok (W : World) (m : Mv) : Prop := (-9223372036854775808 ≤ m.k ∧ m.k ≤ 9223372036854775807) ∧ (-9223372036854775808 ≤ m.w ∧ m.w ≤ 9223372036854775807) ∧ (-9223372036854775808 ≤ m.a ∧ m.a ≤ 9223372036854775807) ∧ By W m.d.v m.d.s ∧ m.d.s.length ≤ 140737488351232
end Go.Proofs.Ytcjgicfmfjomgaa
namespace Go.Proofs.Ytcjgicfmfjomgaa
open Go.ChangeShapes Go.WideShapes Go.ChangeAt Go.RowKit Go.WideMaps Go.WideElems Go.PlainAid
set_option linter.unusedVariables false
theorem cells54 : Try.prog.cellsOf 54 = 4 := by kernel_rfl
theorem uncons {α : Type} {l : List α} {n : Nat} (h : l.length = n + 1) : ∃ a t, l = a :: t ∧ t.length = n := by
  cases l with
  | nil => simp at h
  | cons a t => exact ⟨a, t, rfl, by simpa using h⟩
def In64 (z : Int) : Prop := (-9223372036854775808 : Int) ≤ z ∧ z ≤ 9223372036854775807
theorem cells3' : Try.prog.cellsOf 3 = 1 := by kernel_rfl
section
variable {H : Type} {enc : TypeId × Value → H} {W : World} {fuel : Nat} {cs : List Value} {x : DataW H × List MemPlace}
set_option maxRecDepth 100000
set_option maxHeartbeats 1600000
theorem t_int {t : TypeId} (hu : Try.prog.underlying t = some (.int .i64)) (h : DataW.trod enc Try.prog W 0 (fun _ => true) true fuel t cs = some x) : ∃ z, cs = [.int .i64 z] ∧ In64 z := by
  obtain ⟨z, e, _, hw⟩ := DataW.trod_int hu h
  have := bounds_i64 hw
  exact ⟨z, e, by unfold In64; omega⟩
theorem w_part {t t' : TypeId} {fs : Array Field} {xs : List (DataW H × List MemPlace)} {i : Nat} {y : DataW H × List MemPlace} (hu : Try.prog.underlying t = some (.struct fs)) (hx : x = (.agg (xs.map (·.1)), xs.flatMap (·.2))) (hw : ∀ n ∈ x.1.weights Try.prog t, n ≤ reachBytes)
    (ht : (fs.toList.map (·.type))[i]? = some t') (hy : xs[i]? = some y) : ∀ n ∈ y.1.weights Try.prog t', n ≤ reachBytes := by
  intro n hn
  refine hw n ?_
  rw [hx]
  simp only [DataW.weights, hu]
  exact DataW.weights_mem_each ht (by rw [List.getElem?_map, hy]; rfl) n hn
theorem t_mv (h : DataW.trod enc Try.prog W 0 (fun _ => true) true fuel 54 cs = some x) (hw : ∀ n ∈ x.1.weights Try.prog 54, n ≤ reachBytes) :
    ∃ o : Mv, cs = o.row ∧ o.ok W := by
  obtain ⟨xs, mm, _, hx, hl, hxl, hf⟩ := DataW.trod_struct Try.underlying54 h
  have hxl' : xs.length = 4 := hxl
  rw [cells54] at hl
  obtain ⟨c0, l1, rfl, k1⟩ := uncons hl
  obtain ⟨c1, l2, rfl, k2⟩ := uncons k1
  obtain ⟨c2, l3, rfl, k3⟩ := uncons k2
  obtain ⟨c3, l4, rfl, k4⟩ := uncons k3
  obtain rfl := List.eq_nil_of_length_eq_zero k4
  have y0 : xs[0]? = some xs[0] := List.getElem?_eq_getElem (by omega)
  have h0 : DataW.trod enc Try.prog W 0 (fun _ => true) true mm 3 [c0] = some xs[0] := by
    have e : DataW.trod enc Try.prog W 0 (fun _ => true) true mm 3 (List.take (Try.prog.cellsOf 3) (List.drop 0 [c0, c1, c2, c3])) = xs[0]? := hf 0 _ rfl
    rw [cells3', y0] at e
    exact e
  obtain ⟨z0, e0, b0⟩ := t_int Try.underlying3 h0
  have y1 : xs[1]? = some xs[1] := List.getElem?_eq_getElem (by omega)
  have h1 : DataW.trod enc Try.prog W 0 (fun _ => true) true mm 3 [c1] = some xs[1] := by
    have e : DataW.trod enc Try.prog W 0 (fun _ => true) true mm 3 (List.take (Try.prog.cellsOf 3) (List.drop 1 [c0, c1, c2, c3])) = xs[1]? := hf 1 _ rfl
    rw [cells3', y1] at e
    exact e
  obtain ⟨z1, e1, b1⟩ := t_int Try.underlying3 h1
  have y2 : xs[2]? = some xs[2] := List.getElem?_eq_getElem (by omega)
  have h2 : DataW.trod enc Try.prog W 0 (fun _ => true) true mm 3 [c2] = some xs[2] := by
    have e : DataW.trod enc Try.prog W 0 (fun _ => true) true mm 3 (List.take (Try.prog.cellsOf 3) (List.drop 2 [c0, c1, c2, c3])) = xs[2]? := hf 2 _ rfl
    rw [cells3', y2] at e
    exact e
  obtain ⟨z2, e2, b2⟩ := t_int Try.underlying3 h2
  have y3 : xs[3]? = some xs[3] := List.getElem?_eq_getElem (by omega)
  have h3 : DataW.trod enc Try.prog W 0 (fun _ => true) true mm 41 [c3] = some xs[3] := by
    have e : DataW.trod enc Try.prog W 0 (fun _ => true) true mm 41 (List.take (Try.prog.cellsOf 41) (List.drop 3 [c0, c1, c2, c3])) = xs[3]? := hf 3 _ rfl
    rw [cells41, y3] at e
    exact e
  obtain ⟨d3, e3, b3, b4⟩ := t_bytes h3 (w_part Try.underlying54 hx hw (i := 3) rfl y3)
  clear hf h hl
  cases e0; cases e1; cases e2; cases e3
  exact ⟨⟨z0, z1, z2, d3⟩, rfl, b0, b1, b2, b3, b4⟩
end
end Go.Proofs.Ytcjgicfmfjomgaa
namespace Go.Proofs.Ytcjgicfmfjomgaa
open Go.RowKit Go.PlainAid Go.MapKept
set_option linter.unusedVariables false
set_option linter.unusedSimpArgs false
theorem load4at {w : World} {b o : Nat} {f t q v : Value} (h : w.cell? ⟨b, o, none⟩ = some f ∧ w.cell? ⟨b, o + 1, none⟩ = some t ∧ w.cell? ⟨b, o + 2, none⟩ = some q ∧ w.cell? ⟨b, o + 3, none⟩ = some v) : (Instr.loadAt 54 (.pointer (some ⟨b, o, none⟩))).run Try.prog w = .ok (.agg #[f, t, q, v]) w := by
  obtain ⟨h0, h1, h2, h3⟩ := h
  simp [go_sem, h0, h1, h2, h3]
theorem load2 {w : World} {b : Nat} {f t : Value} (h : Blk w b #[f, t] 51) : (Instr.loadAt 51 (.pointer (some ⟨b, 0, none⟩))).run Try.prog w = .ok (.agg #[f, t]) w := by
  simp only [Instr.loadAt, Instr.sureAddr, Sem.run_bind, Sem.run_pure, Result.andThen_ok, run_loadVar_row w b 51 51 _ (0, 0) _ h Try.underlying51 rfl (by kernel_rfl)]
/-- A line in play, and the windows beside it. -/
structure PL (W : World) (L xb nb : Nat) (win : Nat → Nat) (n t : Nat) (wr : World) : Prop where
  ex : ∃ S col, LNM L xb S col wr ∧ LInv S win n t ∧ S.sent.length ≤ 400 ∧ 8 ≤ col nb
  b : Blk wr nb #[.int .i64 (win 0 : Int), .int .i64 (win 1 : Int)] 51
  bl : Below W.heap.size W wr
  lo : W.heap.size ≤ L
theorem PL.more {W : World} {L xb nb : Nat} {win : Nat → Nat} {n t : Nat} {wr wr' : World} (h : PL W L xb nb win n t wr) (hb : Below wr.heap.size wr wr') : PL W L xb nb win n t wr' := by
  obtain ⟨S, col, h1, h2, h3, h4⟩ := h.ex
  exact ⟨⟨S, col, h1.more hb, h2, h3, h4⟩, Blk.below h.b hb h.b.lt, h.bl.trans (hb.mono h.bl.size), h.lo⟩
theorem pl_step {W : World} {L xb nb : Nat} {win : Nat → Nat} {n t : Nat} {wr : World} (h : PL W L xb nb win n t wr) (ht : t + 1 ≤ 400) (m : Mv) (hm : m.ok W) :
    Calls Try.prog 22 #[.pointer (some ⟨xb, 0, none⟩), .agg #[.int .i64 m.k, .int .i64 m.w, .int .i64 m.a, m.d.v], .agg #[.int .i64 (win 0 : Int), .int .i64 (win 1 : Int)]] wr fun e w' => e = .returned (.bool true) ∧ PL W L xb nb win n (t + 1) w' := by
  obtain ⟨S, col, h1, h2, h3, h4⟩ := h.ex
  obtain ⟨m1, m2, m3, m4, m5⟩ := hm
  refine (step_any m.k m.w m.a m.d.v m.d.s wr m1 m2 m3 h1 h2 ht h3 (fun wz hb => m4.keep (h.bl.trans (hb.mono h.lo))) m5).mono ?_
  rintro e w' ⟨rfl, S', col', g1, g2, g3, g4, g5, g6⟩
  refine ⟨rfl, ⟨S', col', g1, g2, g3, by rw [g6 nb h.b.lt]; exact h4⟩, (g5 nb h.b.lt h4).trans h.b, h.bl.trans (g4.mono h.lo), h.lo⟩
theorem pl_sound0 {W : World} {L xb nb : Nat} {win : Nat → Nat} {n t : Nat} {wr : World} (h : PL W L xb nb win n t wr) (ht : t ≤ 400) :
    Calls Try.prog 23 #[.pointer (some ⟨xb, 0, none⟩), .int .i64 0, .int .i64 (win 0 : Int)] wr fun e w' => e = .returned (.bool true) ∧ PL W L xb nb win n t w' := by
  obtain ⟨S, col, h1, h2, h3, h4⟩ := h.ex
  refine (sound_0 wr h1 h2 ht).mono ?_
  rintro e w' ⟨rfl, hb⟩
  exact ⟨rfl, h.more hb⟩
theorem pl_sound1 {W : World} {L xb nb : Nat} {win : Nat → Nat} {n t : Nat} {wr : World} (h : PL W L xb nb win n t wr) (ht : t ≤ 400) :
    Calls Try.prog 23 #[.pointer (some ⟨xb, 0, none⟩), .int .i64 1, .int .i64 (win 1 : Int)] wr fun e w' => e = .returned (.bool true) ∧ PL W L xb nb win n t w' := by
  obtain ⟨S, col, h1, h2, h3, h4⟩ := h.ex
  refine (sound_1 wr h1 h2 ht).mono ?_
  rintro e w' ⟨rfl, hb⟩
  exact ⟨rfl, h.more hb⟩
set_option maxRecDepth 100000 in
set_option maxHeartbeats 6400000 in
theorem once_law (x0 x1 x2 : Int) (h0 : -9223372036854775808 ≤ x0 ∧ x0 ≤ 9223372036854775807) (h1 : -9223372036854775808 ≤ x1 ∧ x1 ≤ 9223372036854775807) (h2 : -9223372036854775808 ≤ x2 ∧ x2 ≤ 9223372036854775807) (ao : Option Addr) (M cap : Nat) (os : List Mv) (W : World) (hl : os.length = M) (hMx : M ≤ 9223372036854775807)
    (hok : ∀ o ∈ os, o.ok W) (hat : 0 < M → ∃ b off, ao = some ⟨b, off, none⟩ ∧ ∀ i o, os[i]? = some o → RowAt W b (off + i * 4) o.row) :
    Calls Try.prog 5 #[.int .i64 x0, .int .i64 x1, .int .i64 x2, .slice ao M cap] W fun e w' => e = .returned (.bool true) ∧ Below W.heap.size W w' := by
  have HA : Hid _ := alive_any W
  have HW0 : Hid (∀ w, Calls Try.prog 15 #[.int .i64 x0, .int .i64 1, .int .i64 16] w _) := fun w => within_16 x0 w h0
  have HW1 : Hid (∀ w, Calls Try.prog 15 #[.int .i64 x1, .int .i64 1, .int .i64 16] w _) := fun w => within_16 x1 w h1
  have HBG : Hid (∀ w, Calls Try.prog 21 #[.int .i64 x0, .int .i64 x1, .int .i64 x2] w _) := fun w => begunS_any x0 x1 x2 w h0 h1 h2
  have HOK : Hid (∀ o ∈ os, o.ok W) := hok
  have HAT : Hid (0 < M → ∃ b off, ao = some ⟨b, off, none⟩ ∧ ∀ i o, os[i]? = some o → RowAt W b (off + i * 4) o.row) := hat
  have HL : Hid (os.length = M) := hl
  obtain ⟨wa, hwa⟩ : ∃ wa, wa = wi x0 16 := ⟨_, rfl⟩
  obtain ⟨wb, hwb⟩ : ∃ wb, wb = wi x1 16 := ⟨_, rfl⟩
  obtain ⟨n, hn⟩ : ∃ n, n = wi x2 20 := ⟨_, rfl⟩
  rw [← hwa] at HW0 HBG
  rw [← hwb] at HW1 HBG
  rw [← hn] at HBG
  clear hok hat hl hwa hwb hn h0 h1 h2
  go_enter Try.func5, Try.ntmps5
  go_wp2_with fail
  refine Calls.mono HA.out ?_
  rintro e w1 ⟨rfl, hb1⟩
  have HB1 : Hid (Below W.heap.size W w1) := hb1
  clear hb1 HA
  go_wp2_with fail
  refine Calls.mono (HBG.out _) ?_
  rintro e w2 ⟨xb, S, col, rfl, hL2, hse, hI2, hb2⟩
  have HL2 : Hid (LNM w1.heap.size xb S col w2) := hL2
  have HI2 : Hid (LInv S (winOf wa wb) n 0) := hI2
  have HB2 : Hid (Below w1.heap.size w1 w2) := hb2
  have HSE : Hid (S.sent = []) := hse
  clear hL2 hI2 hb2 HBG hse
  go_wp2_with fail
  refine Calls.mono (HW0.out _) ?_
  rintro e w1' ⟨rfl, hw1'⟩
  replace hw1' := hw1'.symm
  subst hw1'
  go_wp2_with fail
  refine Calls.mono (HW1.out _) ?_
  rintro e w1' ⟨rfl, hw1'⟩
  replace hw1' := hw1'.symm
  subst hw1'
  clear HW0 HW1
  go_upto_region 6 with fail
  obtain ⟨w3, hw3⟩ : ∃ w3, w3 = w2.alloc (Obj.cells #[Value.int IntKind.i64 (wa : Int), Value.int IntKind.i64 (wb : Int)] 51) := ⟨_, rfl⟩
  obtain ⟨nb, hnb⟩ : ∃ nb, nb = w2.heap.size := ⟨_, rfl⟩
  have hb3 : Below w2.heap.size w2 w3 := by rw [hw3]; exact (Below.refl _ _).alloc (Nat.le_refl _) _
  have HP3 : Hid (PL W w1.heap.size xb nb (winOf wa wb) n 0 w3) := by
    refine ⟨⟨S, fun k => if k < w2.heap.size then col k else 9, (HL2.out.recol (fun k hk => if_pos hk)).more hb3, HI2.out, by rw [HSE.out]; simp, ?_⟩, ?_, HB1.out.trans ((HB2.out.mono HB1.out.size).trans (hb3.mono (Nat.le_trans HB1.out.size HB2.out.size))), HB1.out.size⟩
    · show 8 ≤ if nb < w2.heap.size then col nb else 9
      rw [if_neg (by omega)]
      omega
    · rw [hw3, hnb]
      exact heap_alloc_new w2 _
  rw [← hw3, ← hnb]
  clear hw3 hnb hb3 HL2 HI2 HB2 HSE HB1
  obtain ⟨L, hL⟩ : ∃ L, L = w1.heap.size := ⟨_, rfl⟩
  rw [← hL] at HP3
  clear hL
  go_wp2_with fail
  go_loopw [12] (fun s12 wr => ∃ i : Nat, i ≤ M ∧ i ≤ 300 ∧ s12 = .int .i64 (i : Int) ∧ PL W L xb nb (winOf wa wb) n i wr) (fun s12 _ => 300 - (intOf s12).toNat)
  case atStart => exact ⟨0, by omega, by omega, rfl, HP3.out⟩
  case round =>
    clear HP3
    obtain ⟨i, hi, hi3, rfl, hP⟩ := hrel
    have HP : Hid (PL W L xb nb (winOf wa wb) n i wr) := hP
    clear hP
    by_cases hiM : i < M
    · by_cases hi300 : i < 300
      · obtain ⟨ab, aof, hao, hrow⟩ := HAT.out (by omega)
        obtain ⟨o, ho⟩ : ∃ o, os[i]? = some o := ⟨os[i]'(by rw [HL.out]; exact hiM), List.getElem?_eq_getElem _⟩
        have hr := hrow i o ho
        have habl : ab < W.heap.size := hr.lt (by simp [Mv.row])
        have HCF : Hid (∀ wz, Below W.heap.size W wz → Blk wz nb #[.int .i64 (winOf wa wb 0 : Int), .int .i64 (winOf wa wb 1 : Int)] 51 → (wz.cell? ⟨ab, aof + i * 4, none⟩ = some (.int .i64 o.k) ∧ wz.cell? ⟨ab, aof + i * 4 + 1, none⟩ = some (.int .i64 o.w) ∧ wz.cell? ⟨ab, aof + i * 4 + 2, none⟩ = some (.int .i64 o.a) ∧ wz.cell? ⟨ab, aof + i * 4 + 3, none⟩ = some (o.d.v)) ∧ Blk wz nb #[.int .i64 (winOf wa wb 0 : Int), .int .i64 (winOf wa wb 1 : Int)] 51) := fun wz hb hn => by
          have h3 := hr.below hb habl
          exact ⟨⟨h3 0 _ rfl, h3 1 _ rfl, h3 2 _ rfl, h3 3 _ rfl⟩, hn⟩
        have HSTP : Hid _ := pl_step (HP.out.more (Below.refl _ _).drew) (by omega) o (HOK.out o (List.mem_of_getElem? ho))
        clear hr habl ho hrow
        have HAO : Hid (ao = some ⟨ab, aof, none⟩) := hao
        subst hao
        go_upto_region 9 with fail
        rename_i K hK
        try rw [show ∀ a : Act, a.put none undef = a from fun _ => rfl]
        refine wp_region_mix (fun wz => (wz.cell? ⟨ab, aof + i * 4, none⟩ = some (.int .i64 o.k) ∧ wz.cell? ⟨ab, aof + i * 4 + 1, none⟩ = some (.int .i64 o.w) ∧ wz.cell? ⟨ab, aof + i * 4 + 2, none⟩ = some (.int .i64 o.a) ∧ wz.cell? ⟨ab, aof + i * 4 + 3, none⟩ = some (o.d.v)) ∧ Blk wz nb #[.int .i64 (winOf wa wb 0 : Int), .int .i64 (winOf wa wb 1 : Int)] 51) (fun i => i == 6 || i == 99) 99 (by kernel_rfl) rfl (by kernel_rfl) (by kernel_rfl) (by kernel_rfl) ?_
        refine withFrP (N := 57) rfl ?_
        intro f0 F0 hff
        have e10 : f0 10 = Value.pointer (some ⟨xb, 0, none⟩) := hff 10
        have e3 : f0 3 = Value.slice (some ⟨ab, aof, none⟩) M cap := hff 3
        have e12 : f0 12 = Value.int .i64 (i : Int) := hff 12
        have e11 : f0 11 = Value.pointer (some ⟨nb, 0, none⟩) := hff 11
        clear hff
        have HCC : (fun wz => (wz.cell? ⟨ab, aof + i * 4, none⟩ = some (.int .i64 o.k) ∧ wz.cell? ⟨ab, aof + i * 4 + 1, none⟩ = some (.int .i64 o.w) ∧ wz.cell? ⟨ab, aof + i * 4 + 2, none⟩ = some (.int .i64 o.a) ∧ wz.cell? ⟨ab, aof + i * 4 + 3, none⟩ = some (o.d.v)) ∧ Blk wz nb #[.int .i64 (winOf wa wb 0 : Int), .int .i64 (winOf wa wb 1 : Int)] 51) (({ wr with drawn := wr.drawn + 1 } : World)) := HCF.out wr HP.out.bl HP.out.b
        refine lyp F0 rfl HCC rfl (by omega) (wanted_none rfl) (v := Value.pointer (some ⟨xb, 0, none⟩)) (fun wr hwr => by simp only [execOp, (F0.eval 10 (by omega)).trans (show _ = Value.pointer (some ⟨xb, 0, none⟩) from by simp [upd, e10, e3, e12, e11])]; first | rfl | simp [go_sem]) fun Fp1 => ?_
        refine lyp Fp1 rfl HCC rfl (by omega) (wanted_none rfl) (v := Value.slice (some ⟨ab, aof, none⟩) M cap) (fun wr hwr => by simp only [execOp, (Fp1.eval 3 (by omega)).trans (show _ = Value.slice (some ⟨ab, aof, none⟩) M cap from by simp [upd, e10, e3, e12, e11])]; first | rfl | simp [go_sem]) fun Fp2 => ?_
        refine lyp Fp2 rfl HCC rfl (by omega) (wanted_none rfl) (v := Value.int .i64 (i : Int)) (fun wr hwr => by simp only [execOp, (Fp2.eval 12 (by omega)).trans (show _ = Value.int .i64 (i : Int) from by simp [upd, e10, e3, e12, e11])]; first | rfl | simp [go_sem]) fun Fp3 => ?_
        refine lyp Fp3 rfl HCC rfl (by omega) (wanted_none rfl) (v := Value.pointer (some ⟨ab, aof + i * 4, none⟩)) (fun wr hwr => by simp only [execOp, (Fp3.eval 40 (by omega)).trans (show _ = Value.slice (some ⟨ab, aof, none⟩) M cap from by simp [upd, e10, e3, e12, e11]), (Fp3.eval 41 (by omega)).trans (show _ = Value.int .i64 (i : Int) from by simp [upd, e10, e3, e12, e11])]; simp only [Sem.run_bind, Sem.run_pure, Result.andThen_ok, idx_run 48 54 4 Try.underlying48 (by kernel_rfl) _ ab aof M cap i hiM, Nat.zero_add, Nat.mul_one]; try rfl) fun Fp4 => ?_
        refine lyp Fp4 rfl HCC rfl (by omega) (wanted_none rfl) (v := Value.agg #[.int .i64 o.k, .int .i64 o.w, .int .i64 o.a, o.d.v]) (fun wr hwr => by simp only [execOp, (Fp4.eval 42 (by omega)).trans (show _ = Value.pointer (some ⟨ab, aof + i * 4, none⟩) from by simp [upd, e10, e3, e12, e11])]; simp only [Sem.run_bind, Sem.run_pure, Result.andThen_ok, load4at hwr.1]; try rfl) fun Fp5 => ?_
        refine lyp Fp5 rfl HCC rfl (by omega) (wanted_none rfl) (v := Value.agg #[.int .i64 (winOf wa wb 0 : Int), .int .i64 (winOf wa wb 1 : Int)]) (fun wr hwr => by simp only [execOp, (Fp5.eval 11 (by omega)).trans (show _ = Value.pointer (some ⟨nb, 0, none⟩) from by simp [upd, e10, e3, e12, e11])]; simp only [Sem.run_bind, Sem.run_pure, Result.andThen_ok, load2 hwr.2]; try rfl) fun Fp6 => ?_
        refine lcp Fp6 rfl HCC rfl (by omega) (wanted_none rfl) (g := 22) (args := #[Value.pointer (some ⟨xb, 0, none⟩), Value.agg #[.int .i64 o.k, .int .i64 o.w, .int .i64 o.a, o.d.v], Value.agg #[.int .i64 (winOf wa wb 0 : Int), .int .i64 (winOf wa wb 1 : Int)]]) (by simp only [execOp, resolve, invoke, List.map_toArray, List.map_cons, List.map_nil, (Fp6.eval 39 (by omega)).trans (show _ = Value.pointer (some ⟨xb, 0, none⟩) from by simp [upd, e10, e3, e12, e11]), (Fp6.eval 43 (by omega)).trans (show _ = Value.agg #[.int .i64 o.k, .int .i64 o.w, .int .i64 o.a, o.d.v] from by simp [upd, e10, e3, e12, e11]), (Fp6.eval 44 (by omega)).trans (show _ = Value.agg #[.int .i64 (winOf wa wb 0 : Int), .int .i64 (winOf wa wb 1 : Int)] from by simp [upd, e10, e3, e12, e11])]; simp [go_sem, Act.eval]) HSTP.out ?_
        rintro e w5 ⟨rfl, hP5⟩
        refine ⟨_, rfl, fun Fp7 => ?_⟩
        have HC5 : (fun wz => (wz.cell? ⟨ab, aof + i * 4, none⟩ = some (.int .i64 o.k) ∧ wz.cell? ⟨ab, aof + i * 4 + 1, none⟩ = some (.int .i64 o.w) ∧ wz.cell? ⟨ab, aof + i * 4 + 2, none⟩ = some (.int .i64 o.a) ∧ wz.cell? ⟨ab, aof + i * 4 + 3, none⟩ = some (o.d.v)) ∧ Blk wz nb #[.int .i64 (winOf wa wb 0 : Int), .int .i64 (winOf wa wb 1 : Int)] 51) w5 := HCF.out w5 hP5.bl hP5.b
        refine lyp Fp7 rfl HC5 rfl (by omega) (wanted_none rfl) (v := Value.bool false) (fun wr hwr => by simp only [execOp, (Fp7.eval 45 (by omega)).trans (show _ = Value.bool true from by simp [upd, e10, e3, e12, e11])]; simp [go_sem, Act.eval]) fun Fp8 => ?_
        refine ⟨fun _ => HC5, ?_⟩
        refine hK _ _ ?_
        clear F0 Fp1 Fp2 Fp3 Fp4 Fp5 Fp6 Fp7 Fp8 e10 e3 e12 e11 HCC HC5
        simp only [Act.put, List.setIfInBounds_toArray, List.set_cons_succ, List.set_cons_zero]
        have HP5 : Hid (PL W L xb nb (winOf wa wb) n (i + 1) w5) := hP5
        clear hP5 HSTP HCF
        go_wp2_with fail
        go_roundw
        case rel => exact ⟨i + 1, by omega, by omega, by go_num, HP5.out⟩
        case measure => simp [intOf]; omega
      · have hi3' : ¬ (i : Int) < 300 := by omega
        have n0 : wr.cell? ⟨nb, 0, none⟩ = some (.int .i64 (winOf wa wb 0 : Int)) := HP.out.b.cell 0
        go_wp2_with fail
        refine Calls.mono (pl_sound0 HP.out (by omega)) ?_
        rintro e w8 ⟨rfl, hP8⟩
        have HP8 : Hid (PL W L xb nb (winOf wa wb) n i w8) := hP8
        have n1 : w8.cell? ⟨nb, 1, none⟩ = some (.int .i64 (winOf wa wb 1 : Int)) := hP8.b.cell 1
        clear hP8 n0
        go_wp2_with fail
        refine Calls.mono (pl_sound1 HP8.out (by omega)) ?_
        rintro e w9 ⟨rfl, hP9⟩
        have HP9 : Hid (Below W.heap.size W w9) := hP9.bl
        clear hP9 n1
        go_wp2_with fail
        go_ret
        exact ⟨rfl, HP9.out⟩
    · have hiM' : ¬ (i : Int) < (M : Int) := by omega
      have n0 : wr.cell? ⟨nb, 0, none⟩ = some (.int .i64 (winOf wa wb 0 : Int)) := HP.out.b.cell 0
      go_wp2_with fail
      refine Calls.mono (pl_sound0 HP.out (by omega)) ?_
      rintro e w8 ⟨rfl, hP8⟩
      have HP8 : Hid (PL W L xb nb (winOf wa wb) n i w8) := hP8
      have n1 : w8.cell? ⟨nb, 1, none⟩ = some (.int .i64 (winOf wa wb 1 : Int)) := hP8.b.cell 1
      clear hP8 n0
      go_wp2_with fail
      refine Calls.mono (pl_sound1 HP8.out (by omega)) ?_
      rintro e w9 ⟨rfl, hP9⟩
      have HP9 : Hid (Below W.heap.size W w9) := hP9.bl
      clear hP9 n1
      go_wp2_with fail
      go_ret
      exact ⟨rfl, HP9.out⟩
end Go.Proofs.Ytcjgicfmfjomgaa
namespace Go.Proofs.Ytcjgicfmfjomgaa
open Go.RowKit Go.PlainAid Go.MapKept
set_option linter.unusedVariables false
set_option linter.unusedSimpArgs false
theorem handed_ge : ∀ (f : Nat) (n : Int) (E : List (Int × Dv)), n ≤ (handed f n E).2.1
  | 0, n, E => Int.le_refl _
  | f + 1, n, E => by
    cases h : atD n E with
    | none => rw [handed_none h]; exact Int.le_refl _
    | some d =>
      simp only [handed, h]
      have := handed_ge f (n + 1) (rmD n E)
      omega
theorem handed_gt {n : Int} {E : List (Int × Dv)} {d : Dv} (h : atD n E = some d) : n < (handed E.length n E).2.1 := by
  have hl := (rm_perm h).2
  rw [hl]
  simp only [handed, h]
  have := handed_ge (rmD n E).length (n + 1) (rmD n E)
  omega
theorem atD_any {q : Int} : ∀ {E : List (Int × Dv)}, (E.any fun p => decide (p.1 = q)) = true → ∃ d, atD q E = some d
  | [], h => by simp at h
  | p :: t, h => by
    unfold atD
    by_cases e : q = p.1
    · exact ⟨p.2, by simp [e]⟩
    · simp only [List.any_cons, Bool.or_eq_true, decide_eq_true_eq] at h
      rcases h with h | h
      · exact absurd h.symm e
      · obtain ⟨d, hd⟩ := atD_any (E := t) h
        exact ⟨d, by simp only [List.find?_cons, decide_eq_false e]; exact hd⟩
/-- What is not beyond the number that is awaited is behind it then. -/
theorem take_reach {x x' : LV} {q k : Int} {s : List UInt8} {ds : List Dv} (h : TakeEq x q k s ds x') (h0 : q ≠ 0) (hq : q ≤ x.next) (hw : 1 ≤ x.win) : q < x'.next := by
  unfold TakeEq at h
  rw [if_neg h0] at h
  obtain ⟨x1, hw1, _, rfl⟩ := h
  have hk := ack_next x k
  show q < (handed x1.early.length x1.next x1.early).2.1
  unfold WaitTo at hw1
  by_cases hlt : q < x.next
  · have hn : x1.next = x.next := by
      split at hw1
      · obtain ⟨v', rfl⟩ := hw1; exact hk.1
      · rw [hw1]; exact hk.1
    have := handed_ge x1.early.length x1.next x1.early
    omega
  · have he : q = x.next := by omega
    split at hw1
    · obtain ⟨v', rfl⟩ := hw1
      have hn : (({ x.ack k with owed := true } : LV).wait q ⟨v', s⟩).next = q := hk.1.trans he.symm
      obtain ⟨d, hd⟩ := atD_any (q := q) (E := (({ x.ack k with owed := true } : LV).wait q ⟨v', s⟩).early) (by
        show (((x.ack k).early ++ [(q, (⟨v', s⟩ : Dv))]).any fun p => decide (p.1 = q)) = true
        simp)
      rw [hn]
      exact handed_gt hd
    · rename_i hm
      subst hw1
      have hn : ({ x.ack k with owed := true } : LV).next = q := hk.1.trans he.symm
      have hwi : ({ x.ack k with owed := true } : LV).win = x.win := hk.2.2
      have hany : (({ x.ack k with owed := true } : LV).early.any fun p => decide (p.1 = q)) = true := by
        cases ha : (({ x.ack k with owed := true } : LV).early.any fun p => decide (p.1 = q)) with
        | true => rfl
        | false =>
          exfalso
          apply hm
          unfold mayWait
          rw [ha, hn, hwi, decide_eq_true (Int.le_refl q), decide_eq_true (by omega)]
          rfl
      obtain ⟨d, hd⟩ := atD_any hany
      rw [hn]
      exact handed_gt hd
theorem take_owed {x x' : LV} {q k : Int} {s : List UInt8} {ds : List Dv} (h : TakeEq x q k s ds x') : x'.owed = (x.owed || decide (q ≠ 0)) := by
  unfold TakeEq at h
  by_cases h0 : q = 0
  · rw [if_pos h0] at h
    rw [h.2, h0]
    unfold LV.ack
    split <;> simp
  · rw [if_neg h0] at h
    obtain ⟨x1, hw1, _, rfl⟩ := h
    rw [decide_eq_true h0, Bool.or_true]
    unfold WaitTo at hw1
    split at hw1
    · obtain ⟨v', rfl⟩ := hw1; rfl
    · rw [hw1]; rfl
theorem ack_reach (x : LV) (k : Int) : k ≤ (x.ack k).acked ∧ x.acked ≤ (x.ack k).acked ∧ (x.under = [] → (x.ack k).under = []) := by
  unfold LV.ack
  split
  · rename_i h
    exact ⟨h, Int.le_refl _, fun e => e⟩
  · refine ⟨Int.le_refl _, by show x.acked ≤ k; omega, fun e => ?_⟩
    show x.under.drop _ = []
    rw [e]
    simp
/-- Numbers that follow one another. -/
def Cn (l : List Sgm) (a : Int) : Prop := ∀ (k : Nat) (g : Sgm), l[k]? = some g → g.q ≤ a + 1 ∨ ∃ r : Nat, r < k ∧ ∃ g' : Sgm, l[r]? = some g' ∧ g'.q + 1 = g.q
/-- The segments of the end i come to the other one, in order: the first k have. -/
structure PH (i : Nat) (S0 : Ln) (K a : Int) (l : List Sgm) (k : Nat) (S : Ln) : Prop where
  xi : (S.e i).x = (S0.e i).x
  ini : (S.e i).inn = (S0.e i).inn
  inj : (S.e (1 - i)).inn = (S0.e (1 - i)).inn
  ouj : (S.e (1 - i)).out = (S0.e (1 - i)).out
  bx : (S.e (1 - i)).x.box = (S0.e (1 - i)).x.box
  du : (S.e (1 - i)).x.due = (S0.e (1 - i)).x.due
  ag : (S.e (1 - i)).x.age = (S0.e (1 - i)).x.age
  ow : (S.e (1 - i)).x.owed = ((S0.e (1 - i)).x.owed || (l.take k).any fun g => decide (g.q ≠ 0))
  ak : 0 < k → K ≤ (S.e (1 - i)).x.acked
  un : (S0.e (1 - i)).x.under = [] → (S.e (1 - i)).x.under = []
  oo : (S0.e i).out ≤ (S.e i).out
  rc : Cn l a → ∀ r, r < k → ∀ g, l[r]? = some g → g.q ≤ ((S.e i).out : Int)
  st : S.sent = S0.sent ∧ S.sv = S0.sv
theorem PH.zero (i : Nat) (S : Ln) (K a : Int) (l : List Sgm) : PH i S K a l 0 S :=
  ⟨rfl, rfl, rfl, rfl, rfl, rfl, rfl, by simp, (fun h => by omega), (fun h => h), Nat.le_refl _, (fun _ r hr => by omega), rfl, rfl⟩
theorem PH.step {i : Nat} (hi : i < 2) {S0 S : Ln} {K a : Int} {l : List Sgm} {k n t : Nat} {win : Nat → Nat} (h : PH i S0 K a l k S) (hI : LInv S win n t) (ha : a ≤ ((S0.e i).out : Int)) {g : Sgm} (hg : l[k]? = some g) (hK : g.a = K) (hs : SegOk ((S.e i).inn.map Dv.s) ((S.e i).inn.length - (S.e i).x.box.length) (S.e (1 - i)).out g.q g.a g.d.s) {ds : List Dv} {x' : LV} (uv : Value) (ht : TakeEq (S.e (1 - i)).x g.q g.a g.d.s ds x') :
    PH i S0 K a l (k + 1) ((S.endX (1 - i) uv x').outO i ((S.e i).out + ds.length)) := by
  have hj := two hi
  have hne : i ≠ 1 - i := fun e => hj.2.1 e.symm
  have eI : ((S.endX (1 - i) uv x').outO i ((S.e i).out + ds.length)).e i = { S.e i with out := (S.e i).out + ds.length } := by rw [Ln.outO_same, Ln.endX_ne _ _ _ hne]
  have eJ : ((S.endX (1 - i) uv x').outO i ((S.e i).out + ds.length)).e (1 - i) = { S.e (1 - i) with uv := uv, x := x' } := by rw [Ln.outO_ne _ _ hj.2.1, Ln.endX_same]
  obtain ⟨k1, k2, k3, k4, k5, k6, k7, k8⟩ := take_keeps ht
  have hr := ack_reach (S.e (1 - i)).x g.a
  have hinv := hI.takes hi uv hs ht
  have how := take_owed ht
  refine ⟨by rw [eI]; exact h.xi, by rw [eI]; exact h.ini, by rw [eJ]; exact h.inj, by rw [eJ]; exact h.ouj, by rw [eJ]; exact k5.trans h.bx, by rw [eJ]; exact k8.trans h.du, by rw [eJ]; exact k4.trans h.ag, ?_, fun _ => ?_, fun e => ?_, ?_, fun hC r hrk g' hg' => ?_, h.st⟩
  · rw [eJ]
    show x'.owed = _
    rw [how, h.ow, List.take_add_one, hg, List.any_append]
    simp [Bool.or_assoc]
  · rw [eJ]
    show K ≤ x'.acked
    rw [k7, ← hK]
    exact hr.1
  · rw [eJ]
    show x'.under = []
    rw [k6]
    exact hr.2.2 (h.un e)
  · rw [eI]
    have := h.oo
    show _ ≤ (S.e i).out + ds.length
    omega
  · rw [eI]
    show g'.q ≤ (((S.e i).out + ds.length : Nat) : Int)
    by_cases hlt : r < k
    · have := h.rc hC r hlt g' hg'
      omega
    · obtain rfl : r = k := by omega
      rw [hg] at hg'
      cases hg'
      by_cases h0 : g.q = 0
      · omega
      · obtain ⟨b, hb⟩ := hI.d i hi
        have hq : g.q ≤ (S.e (1 - i)).x.next := by
          rw [hb.nx]
          have hoo := h.oo
          rcases hC r g hg with q | ⟨r', hr', g2, hg2, e2⟩
          · omega
          · have := h.rc hC r' hr' g2 hg2
            omega
        have hwn := hI.wn (1 - i) hj.1
        have hwi := (hI.ei (1 - i) hj.1).wi
        have := take_reach ht h0 hq (by omega)
        rw [hinv.2.2.2] at this
        omega
theorem tell_app2 (a b c : Int) : ∀ (q : Int) (ss ts : List (List UInt8)), tell a b c q (ss ++ ts) = tell a b c q ss ++ tell a b c (q + (ss.length : Int)) ts
  | q, [], ts => by simp [tell]
  | q, s :: ss, ts => by
    rw [List.cons_append]
    simp only [tell, tell_app2 a b c (q + 1) ss ts, List.cons_append, List.length_cons]
    congr 3
    omega
def ackTell (x : LV) : List (Int × Int × Int × Int × List UInt8) := if x.owed = true then [(x.me, x.peer, 0, x.next - 1, [])] else []
/-- Where all that is not acknowledged is told. -/
theorem tells_all (x : LV) (h : x.due = true ∨ x.under = []) : outTells x = ackTell x ++ tell x.me x.peer (x.next - 1) (x.acked + 1) ((x.under ++ x.box).map Dv.s) := by
  unfold outTells ackTell
  rw [List.append_assoc]
  congr 1
  rcases h with h | h
  · rw [if_pos h, List.map_append, tell_app2, List.length_map, show x.acked + (x.under.length : Int) + 1 = x.acked + 1 + (x.under.length : Int) from by omega]
  · rw [h]
    simp [tell]
theorem tells_ack (x : LV) {g : Sgm} (h : g.pr ∈ outTells x) : g.a = x.next - 1 := by
  have key : ∀ r ∈ outTells x, r.2.2.2.1 = x.next - 1 := fun r hr => by
    unfold outTells at hr
    rcases List.mem_append.1 hr with hr | hr
    · rcases List.mem_append.1 hr with hr | hr
      · split at hr
        · rw [List.mem_singleton.1 hr]
        · cases hr
      · split at hr
        · obtain ⟨m, s, _, rfl⟩ := tell_mem hr; rfl
        · cases hr
    · obtain ⟨m, s, _, rfl⟩ := tell_mem hr; rfl
  exact key _ h
theorem cn_all {x : LV} (h : x.due = true ∨ x.under = []) (h0 : 0 ≤ x.acked) {l : List Sgm} (hl : l.map Sgm.pr = outTells x) : Cn l x.acked ∧ (x.under ++ x.box ≠ [] → ∃ (k : Nat) (g : Sgm), l[k]? = some g ∧ g.q = x.acked + ((x.under ++ x.box).length : Int)) := by
  rw [tells_all x h] at hl
  have hA : (ackTell x).length ≤ 1 := by unfold ackTell; split <;> simp
  have hA0 : ∀ r ∈ ackTell x, r.2.2.1 = 0 := fun r hr => by
    unfold ackTell at hr
    split at hr
    · rw [List.mem_singleton.1 hr]
    · cases hr
  have hat : ∀ (k : Nat) (g : Sgm), l[k]? = some g → (ackTell x ++ tell x.me x.peer (x.next - 1) (x.acked + 1) ((x.under ++ x.box).map Dv.s))[k]? = some g.pr := fun k g hg => by rw [← hl, List.getElem?_map, hg]; rfl
  have hback : ∀ (k : Nat) r, (ackTell x ++ tell x.me x.peer (x.next - 1) (x.acked + 1) ((x.under ++ x.box).map Dv.s))[k]? = some r → ∃ g : Sgm, l[k]? = some g ∧ g.pr = r := fun k r hr => by
    rw [← hl, List.getElem?_map] at hr
    cases hg : l[k]? with
    | none => rw [hg] at hr; cases hr
    | some g => rw [hg] at hr; exact ⟨g, rfl, Option.some.inj hr⟩
  have htell : ∀ m : Nat, m < (x.under ++ x.box).length → ∃ s, (ackTell x ++ tell x.me x.peer (x.next - 1) (x.acked + 1) ((x.under ++ x.box).map Dv.s))[(ackTell x).length + m]? = some (x.me, x.peer, x.acked + 1 + (m : Int), x.next - 1, s) := fun m hm => by
    have e : ∀ r, (tell x.me x.peer (x.next - 1) (x.acked + 1) ((x.under ++ x.box).map Dv.s))[m]? = some r → (ackTell x ++ tell x.me x.peer (x.next - 1) (x.acked + 1) ((x.under ++ x.box).map Dv.s))[(ackTell x).length + m]? = some r := fun r hr => by rw [List.getElem?_append_right (by omega), Nat.add_sub_cancel_left]; exact hr
    have hm' : m < ((x.under ++ x.box).map Dv.s).length := by rw [List.length_map]; exact hm
    exact ⟨_, e _ (tell_at' _ _ _ _ _ m _ (List.getElem?_eq_getElem hm'))⟩
  refine ⟨fun k g hg => ?_, fun hne => ?_⟩
  · have h1 := hat k g hg
    by_cases hk : k < (ackTell x).length
    · rw [List.getElem?_append_left hk] at h1
      have := hA0 _ (List.mem_of_getElem? h1)
      have h2 : g.q = 0 := this
      exact .inl (by omega)
    · have hkl : k < (ackTell x).length + (x.under ++ x.box).length := by
        have h3 := (List.getElem?_eq_some_iff.1 h1).1
        rw [List.length_append, tell_len, List.length_map] at h3
        exact h3
      obtain ⟨m, rfl⟩ : ∃ m, k = (ackTell x).length + m := ⟨k - (ackTell x).length, by omega⟩
      obtain ⟨s2, h2⟩ := htell m (by omega)
      rw [h1] at h2
      have hq : g.q = x.acked + 1 + (m : Int) := congrArg (fun r => r.2.2.1) (Option.some.inj h2)
      cases m with
      | zero => exact .inl (by omega)
      | succ m =>
        obtain ⟨s3, h3⟩ := htell m (by omega)
        obtain ⟨g', hg', hp'⟩ := hback _ _ h3
        refine .inr ⟨(ackTell x).length + m, by omega, g', hg', ?_⟩
        have : g'.q = x.acked + 1 + (m : Int) := congrArg (fun r => r.2.2.1) hp'
        omega
  · have hpos : 0 < (x.under ++ x.box).length := List.length_pos_iff.2 hne
    obtain ⟨s3, h3⟩ := htell ((x.under ++ x.box).length - 1) (by omega)
    obtain ⟨g', hg', hp'⟩ := hback _ _ h3
    refine ⟨_, g', hg', ?_⟩
    have : g'.q = x.acked + 1 + (((x.under ++ x.box).length - 1 : Nat) : Int) := congrArg (fun r => r.2.2.1) hp'
    omega
theorem tells_nil {x : LV} (h : outTells x = []) : x.owed = false ∧ x.box = [] ∧ (x.due = true → x.under = []) := by
  unfold outTells at h
  rw [List.append_eq_nil_iff, List.append_eq_nil_iff] at h
  obtain ⟨⟨h1, h2⟩, h3⟩ := h
  refine ⟨?_, ?_, fun hd => ?_⟩
  · cases ho : x.owed with
    | false => rfl
    | true => rw [ho] at h1; simp at h1
  · have := congrArg List.length h3
    rw [tell_len, List.length_map] at this
    exact List.eq_nil_of_length_eq_zero this
  · rw [if_pos hd] at h2
    have := congrArg List.length h2
    rw [tell_len, List.length_map] at this
    exact List.eq_nil_of_length_eq_zero this
end Go.Proofs.Ytcjgicfmfjomgaa
namespace Go.Proofs.Ytcjgicfmfjomgaa
open Go.RowKit Go.PlainAid Go.MapKept
set_option linter.unusedVariables false
set_option linter.unusedSimpArgs false
def RR (x : LV) (m : Int) : Prop := x.due = true ∨ x.under = [] ∨ m ≤ x.age
def QE (x : LV) (m : Int) : Prop := x.box = [] ∧ x.due = false ∧ x.owed = false ∧ (x.under = [] ∨ m ≤ x.age)
def TT1 (S : Ln) (m : Int) : Prop := (S.e 0).x.box = [] ∧ (S.e 1).x.box = [] ∧ (S.e 0).x.due = false ∧ (S.e 1).x.due = false ∧ (S.e 1).x.owed = false ∧ ((S.e 0).x.under = [] ∨ m ≤ (S.e 0).x.age) ∧ ((S.e 1).x.under = [] ∨ m ≤ (S.e 1).x.age ∨ ((S.e 0).x.owed = true ∧ (S.e 1).out = (S.e 1).inn.length))
/-- One turn of the ends that tell all they have. -/
structure It (S S1 S2 S3 S4 : Ln) (l0 l1 : List Sgm) (win : Nat → Nat) (n t : Nat) : Prop where
  i0 : LInv S win n t
  e1 : ∃ uv, S1 = S.endX 0 uv ((S.e 0).x.calm.moved (S.e 0).x.box.length)
  p0 : l0.map Sgm.pr = outTells (S.e 0).x
  a : PH 0 S1 ((S.e 0).x.next - 1) (S.e 0).x.acked l0 l0.length S2
  i2 : LInv S2 win n t
  e3 : ∃ uv, S3 = S2.endX 1 uv ((S2.e 1).x.calm.moved (S2.e 1).x.box.length)
  p1 : l1.map Sgm.pr = outTells (S2.e 1).x
  b : PH 1 S3 ((S2.e 1).x.next - 1) (S2.e 1).x.acked l1 l1.length S4
  i4 : LInv S4 win n t
theorem cm_box (x : LV) : (x.calm.moved x.box.length).box = [] ∧ (x.calm.moved x.box.length).under = x.under ++ x.box ∧ (x.calm.moved x.box.length).due = false ∧ (x.calm.moved x.box.length).owed = false ∧ (x.calm.moved x.box.length).acked = x.acked ∧ (x.under ≠ [] → (x.calm.moved x.box.length).age = x.age) := by
  refine ⟨by simp [LV.moved, LV.calm], by simp [LV.moved, LV.calm], rfl, rfl, rfl, fun h => ?_⟩
  show (if x.under.length = 0 then 0 else x.age) = x.age
  rw [if_neg (fun e => h (List.eq_nil_of_length_eq_zero e))]
/-- All came out, where the last that was told has. -/
theorem all_out {S : Ln} {win : Nat → Nat} {n t i : Nat} (h : LInv S win n t) (hi : i < 2) {q : Int} (hq : q ≤ ((S.e i).out : Int)) (e : q = (S.e i).x.acked + ((S.e i).x.under.length : Int)) (hb : (S.e i).x.box = []) : (S.e i).out = (S.e i).inn.length := by
  obtain ⟨a, ha⟩ := h.d i hi
  have h1 := ha.len
  have h2 := ha.go
  have h3 := ha.ack
  rw [List.length_map, hb] at h1
  simp at h1
  omega
theorem all_acked {S : Ln} {win : Nat → Nat} {n t i : Nat} (h : LInv S win n t) (hi : i < 2) (hq : ((S.e i).inn.length : Int) ≤ (S.e i).x.acked) : (S.e i).x.under = [] := by
  obtain ⟨a, ha⟩ := h.d i hi
  have h1 := ha.len
  have h3 := ha.ack
  rw [List.length_map] at h1
  exact List.eq_nil_of_length_eq_zero (by omega)
section
variable {S S1 S2 S3 S4 : Ln} {l0 l1 : List Sgm} {win : Nat → Nat} {n t : Nat} {m : Int}
/-- What the turn leaves, by values. -/
theorem It.facts (h : It S S1 S2 S3 S4 l0 l1 win n t) :
    ((S2.e 0).x = (S.e 0).x.calm.moved (S.e 0).x.box.length) ∧ ((S4.e 1).x = (S2.e 1).x.calm.moved (S2.e 1).x.box.length) ∧ ((S2.e 1).x.box = (S.e 1).x.box ∧ (S2.e 1).x.due = (S.e 1).x.due ∧ (S2.e 1).x.age = (S.e 1).x.age ∧ (S2.e 1).x.owed = ((S.e 1).x.owed || l0.any fun g => decide (g.q ≠ 0)) ∧ ((S.e 1).x.under = [] → (S2.e 1).x.under = [])) ∧ ((S4.e 0).x.box = [] ∧ (S4.e 0).x.due = false ∧ (S4.e 0).x.age = (S2.e 0).x.age ∧ (S4.e 0).x.owed = (l1.any fun g => decide (g.q ≠ 0)) ∧ ((S2.e 0).x.under = [] → (S4.e 0).x.under = [])) ∧ (S2.e 0).inn = (S.e 0).inn ∧ (S2.e 1).inn = (S.e 1).inn ∧ (S4.e 0).inn = (S2.e 0).inn ∧ (S4.e 1).inn = (S2.e 1).inn ∧ (S2.e 1).out = (S.e 1).out ∧ (S4.e 0).out = (S2.e 0).out := by
  obtain ⟨uv, e1⟩ := h.e1
  obtain ⟨uv3, e3⟩ := h.e3
  have a0 : (S1.e 0) = { S.e 0 with uv := uv, x := (S.e 0).x.calm.moved (S.e 0).x.box.length } := by rw [e1, Ln.endX_same]
  have a1 : S1.e 1 = S.e 1 := by rw [e1]; exact Ln.endX_ne _ _ _ (by decide)
  have b1 : (S3.e 1) = { S2.e 1 with uv := uv3, x := (S2.e 1).x.calm.moved (S2.e 1).x.box.length } := by rw [e3, Ln.endX_same]
  have b0 : S3.e 0 = S2.e 0 := by rw [e3]; exact Ln.endX_ne _ _ _ (by decide)
  have hA := h.a
  have hB := h.b
  have x2 : (S2.e 0).x = (S.e 0).x.calm.moved (S.e 0).x.box.length := hA.xi.trans (by rw [a0])
  have hc := cm_box (S.e 0).x
  refine ⟨x2, hB.xi.trans (by rw [b1]), ⟨hA.bx.trans (by rw [show (1 : Nat) - 0 = 1 from rfl, a1]), hA.du.trans (by rw [show (1 : Nat) - 0 = 1 from rfl, a1]), hA.ag.trans (by rw [show (1 : Nat) - 0 = 1 from rfl, a1]), ?_, fun e => hA.un (by rw [show (1 : Nat) - 0 = 1 from rfl, a1]; exact e)⟩, ⟨hB.bx.trans (by rw [show (1 : Nat) - 1 = 0 from rfl, b0, x2]; exact hc.1), hB.du.trans (by rw [show (1 : Nat) - 1 = 0 from rfl, b0, x2]; exact hc.2.2.1), hB.ag.trans (by rw [show (1 : Nat) - 1 = 0 from rfl, b0]), ?_, fun e => hB.un (by rw [show (1 : Nat) - 1 = 0 from rfl, b0]; exact e)⟩, hA.ini.trans (by rw [a0]), hA.inj.trans (by rw [show (1 : Nat) - 0 = 1 from rfl, a1]), hB.inj.trans (by rw [show (1 : Nat) - 1 = 0 from rfl, b0]), hB.ini.trans (by rw [b1]), hA.ouj.trans (by rw [show (1 : Nat) - 0 = 1 from rfl, a1]), hB.ouj.trans (by rw [show (1 : Nat) - 1 = 0 from rfl, b0])⟩
  · have := hA.ow
    rw [List.take_length, show (1 : Nat) - 0 = 1 from rfl, a1] at this
    exact this
  · have := hB.ow
    rw [List.take_length, show (1 : Nat) - 1 = 0 from rfl, b0, x2, hc.2.2.2.1, Bool.false_or] at this
    exact this
theorem any_of {l : List Sgm} {k : Nat} {g : Sgm} (h : l[k]? = some g) (hq : g.q ≠ 0) : (l.any fun g => decide (g.q ≠ 0)) = true :=
  List.any_eq_true.2 ⟨g, List.mem_of_getElem? h, decide_eq_true hq⟩
theorem It.one (h : It S S1 S2 S3 S4 l0 l1 win n t) (r0 : RR (S.e 0).x m) (r1 : RR (S.e 1).x m) : TT1 S4 m := by
  obtain ⟨x2, x4, ⟨f1, f2, f3, f4, f5⟩, ⟨g1, g2, g3, g4, g5⟩, n1, n2, n3, n4, o1, o2⟩ := h.facts
  have hc0 := cm_box (S.e 0).x
  have hc1 := cm_box (S2.e 1).x
  rw [← x2] at hc0
  rw [← x4] at hc1
  obtain ⟨c1, c2, c3, c4, c5, c6⟩ := hc0
  obtain ⟨d1, d2, d3, d4, d5, d6⟩ := hc1
  obtain ⟨aa, ha⟩ := h.i0.d 0 (by omega)
  obtain ⟨bb, hb⟩ := h.i2.d 1 (by omega)
  obtain ⟨a2, ha2⟩ := h.i2.d 0 (by omega)
  have hak0 : 0 ≤ (S.e 0).x.acked := by rw [ha.ack]; omega
  have hak1 : 0 ≤ (S2.e 1).x.acked := by rw [hb.ack]; omega
  refine ⟨g1, d1, g2, d3, d4, ?_, ?_⟩
  · by_cases hD : (S.e 0).x.due = true ∨ (S.e 0).x.under = []
    · refine .inl ?_
      by_cases hne : (S.e 0).x.under ++ (S.e 0).x.box = []
      · exact g5 (by rw [c2]; exact hne)
      · obtain ⟨hcn, hlast⟩ := cn_all hD hak0 h.p0
        obtain ⟨k, g, hg, hq⟩ := hlast hne
        have hkl : k < l0.length := (List.getElem?_eq_some_iff.1 hg).1
        have h1 := h.a.rc hcn k hkl g hg
        have hout := all_out h.i2 (i := 0) (by omega) h1 (by rw [hq, c5, c2]) c1
        have hpos : 0 < ((S.e 0).x.under ++ (S.e 0).x.box).length := List.length_pos_iff.2 hne
        have hany := any_of hg (by omega)
        rw [hany, Bool.or_true] at f4
        have hl1 : l1 ≠ [] := fun e => by
          have := h.p1
          rw [e] at this
          have := (tells_nil this.symm).1
          rw [f4] at this
          cases this
        have h2 := h.b.ak (List.length_pos_iff.2 hl1)
        have hnx : (S2.e 1).x.next = ((S2.e 0).out : Int) + 1 := ha2.nx
        refine all_acked h.i4 (i := 0) (by omega) ?_
        rw [n3, ← hout]
        have h3 : (S2.e 1).x.next - 1 ≤ (S4.e 0).x.acked := h2
        omega
    · have hu : (S.e 0).x.under ≠ [] := fun e => hD (.inr e)
      refine .inr ?_
      rw [g3, c6 hu]
      rcases r0 with q | q | q
      · exact absurd (.inl q) hD
      · exact absurd (.inr q) hD
      · exact q
  · by_cases hD : (S2.e 1).x.due = true ∨ (S2.e 1).x.under = []
    · by_cases hne : (S2.e 1).x.under ++ (S2.e 1).x.box = []
      · exact .inl (by rw [d2]; exact hne)
      · refine .inr (.inr ?_)
        obtain ⟨hcn, hlast⟩ := cn_all hD hak1 h.p1
        obtain ⟨k, g, hg, hq⟩ := hlast hne
        have hkl : k < l1.length := (List.getElem?_eq_some_iff.1 hg).1
        have h1 := h.b.rc hcn k hkl g hg
        have hout := all_out h.i4 (i := 1) (by omega) h1 (by rw [hq, d5, d2]) d1
        have hpos : 0 < ((S2.e 1).x.under ++ (S2.e 1).x.box).length := List.length_pos_iff.2 hne
        exact ⟨by rw [g4]; exact any_of hg (by omega), hout⟩
    · have hu : (S2.e 1).x.under ≠ [] := fun e => hD (.inr e)
      refine .inr (.inl ?_)
      rw [d6 hu, f3]
      rcases r1 with q | q | q
      · exact absurd (.inl (f2.trans q)) hD
      · exact absurd (.inr (f5 q)) hD
      · exact q
theorem tells_few {x : LV} (hb : x.box = []) (hd : x.due = false) {l : List Sgm} (hl : l.map Sgm.pr = outTells x) : (l.any fun g => decide (g.q ≠ 0)) = false ∧ (x.owed = false → l = []) ∧ (x.owed = true → l ≠ []) := by
  have e1 : outTells x = ackTell x := by
    unfold outTells ackTell
    rw [hb, hd]
    simp [tell]
  rw [e1] at hl
  refine ⟨?_, fun ho => ?_, fun ho e => ?_⟩
  · rw [List.any_eq_false]
    intro g hg
    have : g.pr ∈ ackTell x := by rw [← hl]; exact List.mem_map_of_mem hg
    unfold ackTell at this
    split at this
    · have h2 := List.mem_singleton.1 this
      have h3 : g.q = 0 := congrArg (fun r => r.2.2.1) h2
      simp [h3]
    · cases this
  · unfold ackTell at hl
    rw [ho] at hl
    simpa using hl
  · rw [e] at hl
    unfold ackTell at hl
    rw [ho] at hl
    simp at hl
theorem It.two (h : It S S1 S2 S3 S4 l0 l1 win n t) (hT : TT1 S m) : QE (S4.e 0).x m ∧ QE (S4.e 1).x m := by
  obtain ⟨x2, x4, ⟨f1, f2, f3, f4, f5⟩, ⟨g1, g2, g3, g4, g5⟩, n1, n2, n3, n4, o1, o2⟩ := h.facts
  obtain ⟨t1, t2, t3, t4, t5, t6, t7⟩ := hT
  have hc0 := cm_box (S.e 0).x
  have hc1 := cm_box (S2.e 1).x
  rw [← x2] at hc0
  rw [← x4] at hc1
  obtain ⟨c1, c2, c3, c4, c5, c6⟩ := hc0
  obtain ⟨d1, d2, d3, d4, d5, d6⟩ := hc1
  have hf := tells_few t1 t3 h.p0
  rw [hf.1, Bool.or_false, t5] at f4
  have hf1 := tells_few (f1.trans t2) (f2.trans t4) h.p1
  have hl1 := hf1.2.1 f4
  refine ⟨⟨g1, g2, by rw [g4]; exact hf1.1, ?_⟩, ⟨d1, d3, d4, ?_⟩⟩
  · by_cases hu : (S.e 0).x.under = []
    · exact .inl (g5 (by rw [c2, hu, t1]; rfl))
    · rcases t6 with q | q
      · exact absurd q hu
      · exact .inr (by rw [g3, c6 hu]; exact q)
  · rw [d2, f1, t2, List.append_nil]
    by_cases hu : (S2.e 1).x.under = []
    · exact .inl hu
    · rcases t7 with q | q | ⟨q1, q2⟩
      · exact absurd (f5 q) hu
      · exact .inr (by rw [d6 hu, f3]; exact q)
      · exfalso
        apply hu
        have hl0 := hf.2.2 q1
        have h2 := h.a.ak (List.length_pos_iff.2 hl0)
        obtain ⟨bb, hb⟩ := h.i0.d 1 (by omega)
        have hnx : (S.e 0).x.next = ((S.e 1).out : Int) + 1 := hb.nx
        have h3 : (S.e 0).x.next - 1 ≤ (S2.e 1).x.acked := h2
        refine all_acked h.i2 (i := 1) (by omega) ?_
        rw [n2]
        omega
theorem It.nil (h : It S S1 S2 S3 S4 l0 l1 win n t) (q0 : QE (S.e 0).x m) (q1 : QE (S.e 1).x m) : l0 = [] ∧ l1 = [] := by
  obtain ⟨x2, x4, ⟨f1, f2, f3, f4, f5⟩, _⟩ := h.facts
  obtain ⟨a1, a2, a3, a4⟩ := q0
  obtain ⟨b1, b2, b3, b4⟩ := q1
  have hf := tells_few a1 a2 h.p0
  rw [hf.1, Bool.or_false, b3] at f4
  exact ⟨hf.2.1 a3, (tells_few (f1.trans b1) (f2.trans b2) h.p1).2.1 f4⟩
/-- Where neither told anything. -/
theorem It.still (h : It S S1 S2 S3 S4 l0 l1 win n t) (hT : TT1 S4 m) (e1 : l1 = []) : QE (S4.e 0).x m ∧ QE (S4.e 1).x m := by
  obtain ⟨x2, x4, _, ⟨g1, g2, g3, g4, g5⟩, _⟩ := h.facts
  obtain ⟨t1, t2, t3, t4, t5, t6, t7⟩ := hT
  have ho : (S4.e 0).x.owed = false := by rw [g4, e1]; rfl
  refine ⟨⟨t1, t3, ho, t6⟩, ⟨t2, t4, t5, ?_⟩⟩
  rcases t7 with q | q | ⟨q, _⟩
  · exact .inl q
  · exact .inr q
  · rw [ho] at q; cases q
theorem QE.tt {S : Ln} (q0 : QE (S.e 0).x m) (q1 : QE (S.e 1).x m) : TT1 S m := by
  obtain ⟨a1, a2, a3, a4⟩ := q0
  obtain ⟨b1, b2, b3, b4⟩ := q1
  exact ⟨a1, b1, a2, b2, b3, a4, b4.elim .inl (fun q => .inr (.inl q))⟩
theorem RR.tick {x : LV} {m : Int} (h : RR x m) : RR x.tick (m + 1) := by
  unfold LV.tick
  split
  · rename_i e
    exact .inr (.inl (List.eq_nil_of_length_eq_zero e))
  · rename_i hu
    split
    · exact .inl rfl
    · rcases h with q | q | q
      · exact .inl q
      · exact absurd (by rw [q]; rfl) hu
      · exact .inr (.inr (by show m + 1 ≤ x.age + 1; omega))
theorem QE.rr {x : LV} {m : Int} (h : QE x m) : RR x m := by
  rcases h.2.2.2 with q | q
  · exact .inr (.inl q)
  · exact .inr (.inr q)
end
end Go.Proofs.Ytcjgicfmfjomgaa
namespace Go.Proofs.Ytcjgicfmfjomgaa
open Go.RowKit Go.PlainAid Go.MapKept
set_option linter.unusedVariables false
set_option linter.unusedSimpArgs false
/-- A line, and a list of segments beside it. -/
structure QM (L M xb : Nat) (S : Ln) (v : Value) (l : List Sgm) (cw0 : Nat → Nat) (w0 : World) (col : Nat → Nat) (wr : World) : Prop where
  ln : LNM L xb S col wr
  r : wr.ownsRow M 45 5 v l.length (flatG l)
  cr : ∀ k, v.ownBlock = some k → 8 ≤ col k
  dt : ∀ g ∈ l, wr.ownsRow L 5 1 g.d.v g.d.s.length (g.d.s.map B)
  cd : ∀ g ∈ l, ∀ k, g.d.v.ownBlock = some k → 8 ≤ col k
  bl : Below L w0 wr
  kp : ∀ k, k < w0.heap.size → 8 ≤ cw0 k → wr.heap[k]? = w0.heap[k]?
  cl : ∀ k, k < w0.heap.size → col k = cw0 k
/-- A line that goes on, seen from where it began. -/
structure GO (L xb : Nat) (S : Ln) (cw0 : Nat → Nat) (w0 : World) (col : Nat → Nat) (wr : World) : Prop where
  ln : LNM L xb S col wr
  bl : Below L w0 wr
  kp : ∀ k, k < w0.heap.size → 8 ≤ cw0 k → wr.heap[k]? = w0.heap[k]?
  cl : ∀ k, k < w0.heap.size → col k = cw0 k
section
variable {L M xb : Nat} {S : Ln} {v : Value} {l : List Sgm} {cw0 : Nat → Nat} {w0 : World} {col : Nat → Nat} {wr wr' : World}
theorem QM.go (h : QM L M xb S v l cw0 w0 col wr) : GO L xb S cw0 w0 col wr := ⟨h.ln, h.bl, h.kp, h.cl⟩
theorem GO.refl (h : LNM L xb S col wr) : GO L xb S col wr col wr := ⟨h, Below.refl _ _, fun _ _ _ => rfl, fun _ _ => rfl⟩
theorem GO.chg (h : GO L xb S cw0 w0 col wr) {S' : Ln} {col' : Nat → Nat} {A : Nat → Prop} (hl : LNM L xb S' col' wr') (hc : Chg A wr wr') (hA : ∀ k, k < wr.heap.size → A k → col k < 8 ∧ L ≤ k) (hcol : ∀ k, k < wr.heap.size → col' k = col k) : GO L xb S' cw0 w0 col' wr' := by
  have hs := h.bl.size
  refine ⟨hl, h.bl.trans ⟨hc.os, hc.tape, hc.output, hc.size, fun k hk => hc.block k (Nat.lt_of_lt_of_le hk h.ln.hL) (fun a => by have := (hA k (Nat.lt_of_lt_of_le hk h.ln.hL) a).2; omega)⟩, fun k hk h8 => ?_, fun k hk => (hcol k (Nat.lt_of_lt_of_le hk hs)).trans (h.cl k hk)⟩
  refine (hc.block k (Nat.lt_of_lt_of_le hk hs) (fun a => ?_)).trans (h.kp k hk h8)
  have h1 := (hA k (Nat.lt_of_lt_of_le hk hs) a).1
  rw [h.cl k hk] at h1
  omega
theorem GO.more (h : GO L xb S cw0 w0 col wr) (hb : Below wr.heap.size wr wr') : GO L xb S cw0 w0 col wr' :=
  h.chg (h.ln.more hb) (Chg.ofBelow (fun _ => False) hb) (fun _ _ e => e.elim) (fun _ _ => rfl)
/-- An end has ticked, or the like. -/
theorem GO.endX (h : GO L xb S cw0 w0 col wr) {i : Nat} (hi : i < 2) {uv' : Value} {x' : LV} (hm : LM L (S.e i).lb (S.e i).cb (S.e i).mb uv' x' wr') (hs : LStp (S.e i).lb (S.e i).cb (S.e i).mb (S.e i).uv uv' (S.e i).x x' wr wr') : ∃ col', GO L xb (S.endX i uv' x') cw0 w0 col' wr' := by
  obtain ⟨col', hl, hc⟩ := h.ln.endStep hi hm hs
  exact ⟨col', h.chg hl hs.1 (fun k hk a => ⟨by have := (h.ln.ec i hi).ce k a; omega, ((h.ln.em i hi).lm.lt a).1⟩) hc⟩
open Classical in
/-- Out: what it told lies beside the line. -/
theorem GO.out (h : GO L xb S cw0 w0 col wr) {i : Nat} (hi : i < 2) {v uv' : Value} {l : List Sgm} (hSL : SL wr.heap.size v l wr') (hm : LM L (S.e i).lb (S.e i).cb (S.e i).mb uv' ((S.e i).x.calm.moved (S.e i).x.box.length) wr') (hs : LStp (S.e i).lb (S.e i).cb (S.e i).mb (S.e i).uv uv' (S.e i).x ((S.e i).x.calm.moved (S.e i).x.box.length) wr wr') (hd : ∀ k, slown v l k → ¬ lown (S.e i).lb (S.e i).cb (S.e i).mb uv' ((S.e i).x.calm.moved (S.e i).x.box.length) k) :
    ∃ col', QM L wr.heap.size xb (S.endX i uv' ((S.e i).x.calm.moved (S.e i).x.box.length)) v l cw0 w0 col' wr' := by
  obtain ⟨col', hcol'⟩ : ∃ col' : Nat → Nat, col' = fun k => if k < wr.heap.size then col k else if lown (S.e i).lb (S.e i).cb (S.e i).mb uv' ((S.e i).x.calm.moved (S.e i).x.box.length) k then 1 + i else 8 := ⟨_, rfl⟩
  have hlow : ∀ k, k < wr.heap.size → col' k = col k := fun k hk => by rw [hcol']; exact if_pos hk
  have hl := h.ln.endStepC hi hm hs col' hlow (fun k hk ho => by rw [hcol']; simp only; rw [if_neg (by omega), if_pos ho])
  have hg := h.chg hl hs.1 (fun k hk a => ⟨by have := (h.ln.ec i hi).ce k a; omega, ((h.ln.em i hi).lm.lt a).1⟩) hlow
  have h8 : ∀ k, wr.heap.size ≤ k → slown v l k → 8 ≤ col' k := fun k hk ho => by
    rw [hcol']
    simp only
    rw [if_neg (by omega), if_neg (hd k ho)]
    omega
  exact ⟨col', hg.ln, hSL.r, fun k e => h8 k (ownsRow_lt hSL.r e).1 (.inl e), fun g hg' => ownsRow_mono (hSL.d g hg') h.ln.hL, fun g hg' k e => h8 k (ownsRow_lt (hSL.d g hg') e).1 (.inr ⟨g, hg', e⟩), hg.bl, hg.kp, hg.cl⟩
/-- One of the segments came. -/
theorem QM.comes (h : QM L M xb S v l cw0 w0 col wr) {j : Nat} (hj : j < 2) {S' : Ln} {col' : Nat → Nat} (hl : LNM L xb S' col' wr') (hc : Chg (fun k => k = xb ∨ lown (S.e j).lb (S.e j).cb (S.e j).mb (S.e j).uv (S.e j).x k) wr wr') (hcol : ∀ k, k < wr.heap.size → col' k = col k) : QM L M xb S' v l cw0 w0 col' wr' := by
  have hA : ∀ k, k < wr.heap.size → (k = xb ∨ lown (S.e j).lb (S.e j).cb (S.e j).mb (S.e j).uv (S.e j).x k) → col k < 8 ∧ L ≤ k := fun k hk a => by
    rcases a with a | a
    · rw [a, h.ln.cx]; exact ⟨by omega, h.ln.lo⟩
    · exact ⟨by have := (h.ln.ec j hj).ce k a; omega, ((h.ln.em j hj).lm.lt a).1⟩
  have hg := h.go.chg hl hc hA hcol
  have hsame : ∀ k, k < wr.heap.size → 8 ≤ col k → wr'.heap[k]? = wr.heap[k]? := fun k hk h8 => hc.block k hk (fun a => by have := (hA k hk a).1; omega)
  exact ⟨hg.ln, ownsRow_same h.r (fun k e => hsame k (ownsRow_lt h.r e).2 (h.cr k e)), fun k e => by rw [hcol k (ownsRow_lt h.r e).2]; exact h.cr k e, fun g hg' => ownsRow_same (h.dt g hg') (fun k e => hsame k (ownsRow_lt (h.dt g hg') e).2 (h.cd g hg' k e)), fun g hg' k e => by rw [hcol k (ownsRow_lt (h.dt g hg') e).2]; exact h.cd g hg' k e, hg.bl, hg.kp, hg.cl⟩
theorem QM.more (h : QM L M xb S v l cw0 w0 col wr) (hb : Below wr.heap.size wr wr') : QM L M xb S v l cw0 w0 col wr' := by
  have hg := h.go.more hb
  exact ⟨hg.ln, ownsRow_same h.r (fun k e => hb.block k (ownsRow_lt h.r e).2), h.cr, fun g hg' => ownsRow_same (h.dt g hg') (fun k e => hb.block k (ownsRow_lt (h.dt g hg') e).2), h.cd, hg.bl, hg.kp, hg.cl⟩
end
/-- How far the turns have come. -/
def QS (c : Nat) (S : Ln) (m : Int) : Prop := match c with
  | 0 => RR (S.e 0).x m ∧ RR (S.e 1).x m
  | 1 => TT1 S m
  | _ => QE (S.e 0).x m ∧ QE (S.e 1).x m
theorem It.next {S S1 S2 S3 S4 : Ln} {l0 l1 : List Sgm} {win : Nat → Nat} {n t c : Nat} {m : Int} (h : It S S1 S2 S3 S4 l0 l1 win n t) (hc : c ≤ 2) (hq : QS c S m) : (l0 = [] ∧ l1 = [] → QE (S4.e 0).x m ∧ QE (S4.e 1).x m) ∧ (¬ (l0 = [] ∧ l1 = []) → c + 1 ≤ 2 ∧ QS (c + 1) S4 m) := by
  match c, hc, hq with
  | 0, _, hq =>
    have h1 := h.one hq.1 hq.2
    exact ⟨fun e => h.still h1 e.2, fun _ => ⟨by omega, h1⟩⟩
  | 1, _, hq =>
    have h1 := h.two hq
    exact ⟨fun _ => h1, fun _ => ⟨by omega, h1⟩⟩
  | 2, _, hq => exact ⟨fun _ => h.two (QE.tt hq.1 hq.2), fun e => absurd (h.nil hq.1 hq.2) e⟩
end Go.Proofs.Ytcjgicfmfjomgaa
namespace Go.Proofs.Ytcjgicfmfjomgaa
open Go.RowKit Go.PlainAid Go.MapKept
set_option linter.unusedVariables false
set_option linter.unusedSimpArgs false
set_option maxRecDepth 100000 in
set_option maxHeartbeats 6400000 in
theorem quiet_any {L xb n t : Nat} {S0 : Ln} {col0 : Nat → Nat} {win : Nat → Nat} (m : Int) (w : World) (h : LNM L xb S0 col0 w) (hI : LInv S0 win n t) (ht : t ≤ 400) (r0 : RR (S0.e 0).x m) (r1 : RR (S0.e 1).x m) :
    Calls Try.prog 24 #[.pointer (some ⟨xb, 0, none⟩)] w fun e w' => e = .returned (.bool true) ∧ ∃ S' col', GO L xb S' col0 w col' w' ∧ LInv S' win n t ∧ QE (S'.e 0).x m ∧ QE (S'.e 1).x m := by
  have HG0 : Hid (GO L xb S0 col0 w col0 w) := GO.refl h
  have HI0 : Hid (LInv S0 win n t) := hI
  have HQ0 : Hid (QS 0 S0 m) := ⟨r0, r1⟩
  clear h hI r0 r1
  go_enter Try.func24, Try.ntmps24
  go_wp2_with fail
  go_loopw [3, 4, 5, 6, 7] (fun s3 _ _ _ _ wr => ∃ c : Nat, c ≤ 2 ∧ s3 = .int .i64 (c : Int) ∧ ∃ S col, GO L xb S col0 w col wr ∧ LInv S win n t ∧ QS c S m) (fun s3 _ _ _ _ _ => 2 - (intOf s3).toNat)
  case atStart => exact ⟨0, by omega, rfl, S0, col0, HG0.out, HI0.out, HQ0.out⟩
  case round =>
    clear HG0 HI0 HQ0
    obtain ⟨c, hc, rfl, S, col, hG, hI, hQ⟩ := hrel
    have HG : Hid (GO L xb S col0 w col wr) := hG
    have HI : Hid (LInv S win n t) := hI
    have HQ : Hid (QS c S m) := hQ
    have c0 : wr.cell? ⟨xb, 0, none⟩ = some (.pointer (some ⟨(S.e 0).lb, 0, none⟩)) := hG.ln.b.cell 0
    clear hG hI hQ
    go_wp2_with fail
    refine Calls.mono (out_any wr (HG.out.ln.em 0 (by omega)).lm (by have := (HI.out.nums (i := 0) (by omega)).1; omega) (by have := (HI.out.nums (i := 0) (by omega)).2.1; omega) (by have := (HI.out.nums (i := 0) (by omega)).2.2.1; omega) (by have := (HI.out.nums (i := 0) (by omega)).2.2.2.1; omega) (fun d hd => by have := (HI.out.nums (i := 0) (by omega)).2.2.2.2.1 d hd; omega)) ?_
    rintro e w1 ⟨va, uva, la, rfl, hla, hSLa, hMa, hsa, hdja⟩
    obtain ⟨cola, hQa⟩ := HG.out.out (i := 0) (by omega) hSLa hMa hsa hdja
    have hoa := HI.out.out (i := 0) (by omega) uva
    obtain ⟨S1, hS1⟩ : ∃ S1, S1 = S.endX 0 uva ((S.e 0).x.calm.moved (S.e 0).x.box.length) := ⟨_, rfl⟩
    have hgs : ∀ g ∈ la, (g.f = 3 ∧ g.t = 5) ∧ g.a = (S.e 0).x.next - 1 ∧ SegOk ((S1.e 0).inn.map Dv.s) ((S1.e 0).inn.length - (S1.e 0).x.box.length) (S1.e 1).out g.q g.a g.d.s := fun g hg => by
      have hgm : g.pr ∈ outTells (S.e 0).x := by rw [← hla]; exact List.mem_map_of_mem hg
      have h1 := hoa.2 g hgm
      rw [hS1, Ln.endX_same, Ln.endX_ne _ _ _ (by decide)]
      refine ⟨⟨h1.1, h1.2.1⟩, tells_ack _ hgm, ?_⟩
      have hb0 : ((S.e 0).x.calm.moved (S.e 0).x.box.length).box.length = 0 := by rw [(cm_box _).1]; rfl
      show SegOk _ ((S.e 0).inn.length - ((S.e 0).x.calm.moved (S.e 0).x.box.length).box.length) _ _ _ _
      rw [hb0, Nat.sub_zero]
      exact h1.2.2
    obtain ⟨na, hln⟩ : ∃ ln, ln = la.length := ⟨_, rfl⟩
    have hlba : na ≤ 40 := by
      have h1 := congrArg List.length hla
      have h2 := (HI.out.nums (i := 0) (by omega)).2.2.1
      have h3 := (HI.out.nums (i := 0) (by omega)).2.2.2.1
      rw [List.length_map] at h1
      unfold outTells at h1
      simp only [List.length_append, tell_len, List.length_map] at h1
      rw [hln, h1]
      have e1 : (if (S.e 0).x.owed = true then [((S.e 0).x.me, (S.e 0).x.peer, (0 : Int), (S.e 0).x.next - 1, ([] : List UInt8))] else []).length ≤ 1 := by split <;> simp
      have e2 : (if (S.e 0).x.due = true then tell (S.e 0).x.me (S.e 0).x.peer ((S.e 0).x.next - 1) ((S.e 0).x.acked + 1) ((S.e 0).x.under.map Dv.s) else []).length ≤ 16 := by
        split
        · rw [tell_len, List.length_map]; exact h2
        · simp
      omega
    have HLNa : Hid (na = la.length) := hln
    have HGS : Hid (∀ g ∈ la, (g.f = 3 ∧ g.t = 5) ∧ g.a = (S.e 0).x.next - 1 ∧ SegOk ((S1.e 0).inn.map Dv.s) ((S1.e 0).inn.length - (S1.e 0).x.box.length) (S1.e 1).out g.q g.a g.d.s) := hgs
    have HLAa : Hid (la.map Sgm.pr = outTells (S.e 0).x) := hla
    have HS1a : Hid (∃ uv, S1 = S.endX 0 uv ((S.e 0).x.calm.moved (S.e 0).x.box.length)) := ⟨uva, hS1⟩
    have HAO : Hid ((S.e 0).x.acked ≤ ((S1.e 0).out : Int)) := show _ ≤ _ from by
      obtain ⟨aa, haa⟩ := HI.out.d 0 (by omega)
      have h1 := haa.ack
      have h2 := haa.ao
      rw [hS1, Ln.endX_same, h1]
      show ((aa : Nat) : Int) ≤ ((S.e 0).out : Int)
      omega
    have HI1 : Hid (LInv S1 win n t) := show LInv _ _ _ _ from by rw [hS1]; exact hoa.1
    rw [← hS1] at hQa
    obtain ⟨MA, hMM⟩ : ∃ M0, M0 = wr.heap.size := ⟨_, rfl⟩
    rw [← hMM] at hQa
    have HQA : Hid _ := hQa
    obtain ⟨voa, vca, hva, un0⟩ := own_slice hSLa.r
    clear un0
    rw [← hln] at hva
    obtain ⟨l0, hLL⟩ : ∃ ll, ll = la := ⟨_, rfl⟩
    rw [← hLL] at HQA HGS HLAa HLNa
    subst hva
    clear hLL hMM hla hSLa hMa hsa hdja hQa hoa hgs hln hS1 c0
    go_wp2_with fail
    go_loopw [5] (fun s5 wr2 => ∃ k : Nat, k ≤ na ∧ s5 = .int .i64 (k : Int) ∧ ∃ S5 col5, QM L MA xb S5 (.slice voa na vca) l0 col0 w col5 wr2 ∧ LInv S5 win n t ∧ PH 0 S1 ((S.e 0).x.next - 1) (S.e 0).x.acked l0 k S5) (fun s5 _ => na - (intOf s5).toNat)
    case atStart => exact ⟨0, by omega, rfl, _, _, HQA.out, HI1.out, PH.zero _ _ _ _ _⟩
    case round =>
      clear HQA HI1
      obtain ⟨k, hk, rfl, S5, col5, hQ5, hI5, hP5⟩ := hrel
      have HQ5 : Hid (QM L MA xb S5 (.slice voa na vca) l0 col0 w col5 wr) := hQ5
      have HI5 : Hid (LInv S5 win n t) := hI5
      have HP5 : Hid (PH 0 S1 ((S.e 0).x.next - 1) (S.e 0).x.acked l0 k S5) := hP5
      clear hQ5 hI5 hP5
      by_cases hkl : k < na
      · obtain ⟨g, hg⟩ : ∃ g, l0[k]? = some g := ⟨l0[k]'(by rw [← HLNa.out]; exact hkl), List.getElem?_eq_getElem _⟩
        obtain ⟨⟨ef, et⟩, ea, hseg⟩ := HGS.out g (List.mem_of_getElem? hg)
        have hseg5 : SegOk ((S5.e 0).inn.map Dv.s) ((S5.e 0).inn.length - (S5.e 0).x.box.length) (S5.e 1).out g.q g.a g.d.s := by
          have e1 := HP5.out.ini
          have e2 := HP5.out.xi
          have e3 : (S5.e 1).out = (S1.e 1).out := HP5.out.ouj
          rw [e1, e2, e3]
          exact hseg
        obtain ⟨vo', vc', hvv, un1, un2, hrd⟩ := own_read HQ5.out.r
        obtain ⟨vg, hvg, un3, hvgl, hvcl⟩ := hrd (by rw [← HLNa.out]; omega)
        clear un1 un2 un3
        have evo := (Value.slice.inj hvv).1
        rw [hvg] at evo
        have hfl : ∀ f u, f < 5 → g.row[f]? = some u → wr.cell? ⟨vg, k * 5 + f, none⟩ = some u := fun f u hf hu => hvcl _ _ (by rw [flatG, flat_at Sgm.row 5 (fun _ => rfl) l0 k f g hg hf]; exact hu)
        have z0 : wr.cell? ⟨vg, k * 5, none⟩ = some (.int .i64 3) := hfl 0 _ (by omega) (by rw [← ef]; rfl)
        have z1 : wr.cell? ⟨vg, k * 5 + 1, none⟩ = some (.int .i64 5) := hfl 1 _ (by omega) (by rw [← et]; rfl)
        have z2 : wr.cell? ⟨vg, k * 5 + 2, none⟩ = some (.int .i64 g.q) := hfl 2 _ (by omega) rfl
        have z3 : wr.cell? ⟨vg, k * 5 + 3, none⟩ = some (.int .i64 g.a) := hfl 3 _ (by omega) rfl
        have z4 : wr.cell? ⟨vg, k * 5 + 4, none⟩ = some g.d.v := hfl 4 _ (by omega) rfl
        have HCO : Hid (Calls Try.prog 33 #[.pointer (some ⟨xb, 0, none⟩), .agg #[.int .i64 3, .int .i64 5, .int .i64 g.q, .int .i64 g.a, g.d.v]] wr _) := comes_0 g.q g.a g.d.v g.d.s wr HQ5.out.ln HI5.out ht (own_by (HQ5.out.dt g (List.mem_of_getElem? hg))) (HI5.out.segLen (i := 0) (by omega) hseg5) hseg5
        have HSEG : Hid (SegOk ((S5.e 0).inn.map Dv.s) ((S5.e 0).inn.length - (S5.e 0).x.box.length) (S5.e 1).out g.q g.a g.d.s) := hseg5
        have HGK : Hid (l0[k]? = some g ∧ g.a = (S.e 0).x.next - 1) := ⟨hg, ea⟩
        have HLO : Hid ((Instr.loadAt 45 (.pointer (some ⟨vg, k * 5, none⟩))).run Try.prog wr = .ok (.agg #[.int .i64 3, .int .i64 5, .int .i64 g.q, .int .i64 g.a, g.d.v]) wr) := load5at ⟨z0, z1, z2, z3, z4⟩
        clear hg ef et ea hseg hseg5 hvv hrd hvg hvgl hvcl hfl
        subst evo
        go_wp2_with fail
        refine Calls.mono HCO.out ?_
        rintro e w5 ⟨rfl, uv5, ds5, x5, col6, hte5, hL5, hch5, hcol5⟩
        have HQ6 : Hid _ := HQ5.out.comes (j := 1) (by omega) hL5 hch5 hcol5
        have HI6 : Hid _ := (HI5.out.takes (i := 0) (by omega) uv5 HSEG.out hte5).1
        have HP6 : Hid _ := HP5.out.step (i := 0) (by omega) HI5.out HAO.out HGK.out.1 HGK.out.2 HSEG.out uv5 hte5
        clear hte5 hL5 hch5 hcol5 HCO HLO HSEG HGK z0 z1 z2 z3 z4
        go_wp2_with fail
        go_roundw
        case rel => exact ⟨k + 1, by omega, by go_num, _, _, HQ6.out, HI6.out, HP6.out⟩
        case measure => simp [intOf]; omega
      · have hkn : k = na := by omega
        rw [hkn] at HP5 ⊢
        clear hkn hkl hk
        obtain ⟨S2, hS2⟩ : ∃ S2, S2 = S5 := ⟨_, rfl⟩
        obtain ⟨wb, hwb⟩ : ∃ wb, wb = wr := ⟨_, rfl⟩
        rw [← hS2] at HQ5 HI5 HP5
        rw [← hwb] at HQ5 ⊢
        have HGB : Hid (GO L xb S2 col0 w col5 wb) := HQ5.out.go
        have HIB : Hid (LInv S2 win n t) := HI5.out
        have HPA : Hid (PH 0 S1 ((S.e 0).x.next - 1) (S.e 0).x.acked l0 na S2) := HP5.out
        have HI0A : Hid True := trivial
        clear hS2 hwb HQ5 HI5 HP5 HAO HGS
        clear HG HI0A
        have c1 : wb.cell? ⟨xb, 1, none⟩ = some (.pointer (some ⟨(S2.e 1).lb, 0, none⟩)) := HGB.out.ln.b.cell 1
        go_wp2_with fail
        refine Calls.mono (out_any wb (HGB.out.ln.em 1 (by omega)).lm (by have := (HIB.out.nums (i := 1) (by omega)).1; omega) (by have := (HIB.out.nums (i := 1) (by omega)).2.1; omega) (by have := (HIB.out.nums (i := 1) (by omega)).2.2.1; omega) (by have := (HIB.out.nums (i := 1) (by omega)).2.2.2.1; omega) (fun d hd => by have := (HIB.out.nums (i := 1) (by omega)).2.2.2.2.1 d hd; omega)) ?_
        rintro e w3 ⟨va, uva, la, rfl, hla, hSLa, hMa, hsa, hdja⟩
        obtain ⟨cola, hQa⟩ := HGB.out.out (i := 1) (by omega) hSLa hMa hsa hdja
        have hoa := HIB.out.out (i := 1) (by omega) uva
        obtain ⟨S3, hS1⟩ : ∃ S1, S1 = S2.endX 1 uva ((S2.e 1).x.calm.moved (S2.e 1).x.box.length) := ⟨_, rfl⟩
        have hgs : ∀ g ∈ la, (g.f = 5 ∧ g.t = 3) ∧ g.a = (S2.e 1).x.next - 1 ∧ SegOk ((S3.e 1).inn.map Dv.s) ((S3.e 1).inn.length - (S3.e 1).x.box.length) (S3.e 0).out g.q g.a g.d.s := fun g hg => by
          have hgm : g.pr ∈ outTells (S2.e 1).x := by rw [← hla]; exact List.mem_map_of_mem hg
          have h1 := hoa.2 g hgm
          rw [hS1, Ln.endX_same, Ln.endX_ne _ _ _ (by decide)]
          refine ⟨⟨h1.1, h1.2.1⟩, tells_ack _ hgm, ?_⟩
          have hb0 : ((S2.e 1).x.calm.moved (S2.e 1).x.box.length).box.length = 0 := by rw [(cm_box _).1]; rfl
          show SegOk _ ((S2.e 1).inn.length - ((S2.e 1).x.calm.moved (S2.e 1).x.box.length).box.length) _ _ _ _
          rw [hb0, Nat.sub_zero]
          exact h1.2.2
        obtain ⟨nb, hln⟩ : ∃ ln, ln = la.length := ⟨_, rfl⟩
        have hlbb : nb ≤ 40 := by
          have h1 := congrArg List.length hla
          have h2 := (HIB.out.nums (i := 1) (by omega)).2.2.1
          have h3 := (HIB.out.nums (i := 1) (by omega)).2.2.2.1
          rw [List.length_map] at h1
          unfold outTells at h1
          simp only [List.length_append, tell_len, List.length_map] at h1
          rw [hln, h1]
          have e1 : (if (S2.e 1).x.owed = true then [((S2.e 1).x.me, (S2.e 1).x.peer, (0 : Int), (S2.e 1).x.next - 1, ([] : List UInt8))] else []).length ≤ 1 := by split <;> simp
          have e2 : (if (S2.e 1).x.due = true then tell (S2.e 1).x.me (S2.e 1).x.peer ((S2.e 1).x.next - 1) ((S2.e 1).x.acked + 1) ((S2.e 1).x.under.map Dv.s) else []).length ≤ 16 := by
            split
            · rw [tell_len, List.length_map]; exact h2
            · simp
          omega
        have HLNb : Hid (nb = la.length) := hln
        have HGS : Hid (∀ g ∈ la, (g.f = 5 ∧ g.t = 3) ∧ g.a = (S2.e 1).x.next - 1 ∧ SegOk ((S3.e 1).inn.map Dv.s) ((S3.e 1).inn.length - (S3.e 1).x.box.length) (S3.e 0).out g.q g.a g.d.s) := hgs
        have HLAb : Hid (la.map Sgm.pr = outTells (S2.e 1).x) := hla
        have HS1b : Hid (∃ uv, S3 = S2.endX 1 uv ((S2.e 1).x.calm.moved (S2.e 1).x.box.length)) := ⟨uva, hS1⟩
        have HAO : Hid ((S2.e 1).x.acked ≤ ((S3.e 1).out : Int)) := show _ ≤ _ from by
          obtain ⟨aa, haa⟩ := HIB.out.d 1 (by omega)
          have h1 := haa.ack
          have h2 := haa.ao
          rw [hS1, Ln.endX_same, h1]
          show ((aa : Nat) : Int) ≤ ((S2.e 1).out : Int)
          omega
        have HI1 : Hid (LInv S3 win n t) := show LInv _ _ _ _ from by rw [hS1]; exact hoa.1
        rw [← hS1] at hQa
        obtain ⟨MB, hMM⟩ : ∃ M0, M0 = wb.heap.size := ⟨_, rfl⟩
        rw [← hMM] at hQa
        have HQA : Hid _ := hQa
        obtain ⟨vob, vcb, hva, un0⟩ := own_slice hSLa.r
        clear un0
        rw [← hln] at hva
        obtain ⟨l1, hLL⟩ : ∃ ll, ll = la := ⟨_, rfl⟩
        rw [← hLL] at HQA HGS HLAb HLNb
        subst hva
        clear hLL hMM hla hSLa hMa hsa hdja hQa hoa hgs hln hS1 c1
        go_wp2_with fail
        go_loopw [7] (fun s7 wr2 => ∃ k : Nat, k ≤ nb ∧ s7 = .int .i64 (k : Int) ∧ ∃ S5 col5, QM L MB xb S5 (.slice vob nb vcb) l1 col0 w col5 wr2 ∧ LInv S5 win n t ∧ PH 1 S3 ((S2.e 1).x.next - 1) (S2.e 1).x.acked l1 k S5) (fun s7 _ => nb - (intOf s7).toNat)
        case atStart => exact ⟨0, by omega, rfl, _, _, HQA.out, HI1.out, PH.zero _ _ _ _ _⟩
        case round =>
          clear HQA HI1
          obtain ⟨k, hk, rfl, S5, col5, hQ5, hI5, hP5⟩ := hrel
          have HQ5 : Hid (QM L MB xb S5 (.slice vob nb vcb) l1 col0 w col5 wr) := hQ5
          have HI5 : Hid (LInv S5 win n t) := hI5
          have HP5 : Hid (PH 1 S3 ((S2.e 1).x.next - 1) (S2.e 1).x.acked l1 k S5) := hP5
          clear hQ5 hI5 hP5
          by_cases hkl : k < nb
          · obtain ⟨g, hg⟩ : ∃ g, l1[k]? = some g := ⟨l1[k]'(by rw [← HLNb.out]; exact hkl), List.getElem?_eq_getElem _⟩
            obtain ⟨⟨ef, et⟩, ea, hseg⟩ := HGS.out g (List.mem_of_getElem? hg)
            have hseg5 : SegOk ((S5.e 1).inn.map Dv.s) ((S5.e 1).inn.length - (S5.e 1).x.box.length) (S5.e 0).out g.q g.a g.d.s := by
              have e1 := HP5.out.ini
              have e2 := HP5.out.xi
              have e3 : (S5.e 0).out = (S3.e 0).out := HP5.out.ouj
              rw [e1, e2, e3]
              exact hseg
            obtain ⟨vo', vc', hvv, un1, un2, hrd⟩ := own_read HQ5.out.r
            obtain ⟨vg, hvg, un3, hvgl, hvcl⟩ := hrd (by rw [← HLNb.out]; omega)
            clear un1 un2 un3
            have evo := (Value.slice.inj hvv).1
            rw [hvg] at evo
            have hfl : ∀ f u, f < 5 → g.row[f]? = some u → wr.cell? ⟨vg, k * 5 + f, none⟩ = some u := fun f u hf hu => hvcl _ _ (by rw [flatG, flat_at Sgm.row 5 (fun _ => rfl) l1 k f g hg hf]; exact hu)
            have z0 : wr.cell? ⟨vg, k * 5, none⟩ = some (.int .i64 5) := hfl 0 _ (by omega) (by rw [← ef]; rfl)
            have z1 : wr.cell? ⟨vg, k * 5 + 1, none⟩ = some (.int .i64 3) := hfl 1 _ (by omega) (by rw [← et]; rfl)
            have z2 : wr.cell? ⟨vg, k * 5 + 2, none⟩ = some (.int .i64 g.q) := hfl 2 _ (by omega) rfl
            have z3 : wr.cell? ⟨vg, k * 5 + 3, none⟩ = some (.int .i64 g.a) := hfl 3 _ (by omega) rfl
            have z4 : wr.cell? ⟨vg, k * 5 + 4, none⟩ = some g.d.v := hfl 4 _ (by omega) rfl
            have HCO : Hid (Calls Try.prog 33 #[.pointer (some ⟨xb, 0, none⟩), .agg #[.int .i64 5, .int .i64 3, .int .i64 g.q, .int .i64 g.a, g.d.v]] wr _) := comes_1 g.q g.a g.d.v g.d.s wr HQ5.out.ln HI5.out ht (own_by (HQ5.out.dt g (List.mem_of_getElem? hg))) (HI5.out.segLen (i := 1) (by omega) hseg5) hseg5
            have HSEG : Hid (SegOk ((S5.e 1).inn.map Dv.s) ((S5.e 1).inn.length - (S5.e 1).x.box.length) (S5.e 0).out g.q g.a g.d.s) := hseg5
            have HGK : Hid (l1[k]? = some g ∧ g.a = (S2.e 1).x.next - 1) := ⟨hg, ea⟩
            have HLO : Hid ((Instr.loadAt 45 (.pointer (some ⟨vg, k * 5, none⟩))).run Try.prog wr = .ok (.agg #[.int .i64 5, .int .i64 3, .int .i64 g.q, .int .i64 g.a, g.d.v]) wr) := load5at ⟨z0, z1, z2, z3, z4⟩
            clear hg ef et ea hseg hseg5 hvv hrd hvg hvgl hvcl hfl
            subst evo
            go_wp2_with fail
            refine Calls.mono HCO.out ?_
            rintro e w5 ⟨rfl, uv5, ds5, x5, col6, hte5, hL5, hch5, hcol5⟩
            have HQ6 : Hid _ := HQ5.out.comes (j := 0) (by omega) hL5 hch5 hcol5
            have HI6 : Hid _ := (HI5.out.takes (i := 1) (by omega) uv5 HSEG.out hte5).1
            have HP6 : Hid _ := HP5.out.step (i := 1) (by omega) HI5.out HAO.out HGK.out.1 HGK.out.2 HSEG.out uv5 hte5
            clear hte5 hL5 hch5 hcol5 HCO HLO HSEG HGK z0 z1 z2 z3 z4
            go_wp2_with fail
            go_roundw
            case rel => exact ⟨k + 1, by omega, by go_num, _, _, HQ6.out, HI6.out, HP6.out⟩
            case measure => simp [intOf]; omega
          · have hkn : k = nb := by omega
            rw [hkn] at HP5 ⊢
            clear hkn hkl hk
            have HIT : Hid (It S S1 S2 S3 S5 l0 l1 win n t) := ⟨HI.out, HS1a.out, HLAa.out, by rw [← HLNa.out]; exact HPA.out, HIB.out, HS1b.out, HLAb.out, by rw [← HLNb.out]; exact HP5.out, HI5.out⟩
            have HNX : Hid _ := It.next HIT.out hc HQ.out
            have HGE : Hid (GO L xb S5 col0 w col5 wr) := HQ5.out.go
            have HIE : Hid (LInv S5 win n t) := HI5.out
            clear HQ5 HP5 HI5 HPA HAO HGS
            by_cases hz0 : na = 0
            · by_cases hz1 : nb = 0
              · have HRE : Hid (QE (S5.e 0).x m ∧ QE (S5.e 1).x m) := HNX.out.1 ⟨List.eq_nil_of_length_eq_zero (by rw [← HLNa.out]; exact hz0), List.eq_nil_of_length_eq_zero (by rw [← HLNb.out]; exact hz1)⟩
                clear HNX HIT
                subst hz0
                subst hz1
                go_wp2_with fail
                go_ret
                exact ⟨rfl, S5, col5, HGE.out, HIE.out, HRE.out.1, HRE.out.2⟩
              · have hnx := HNX.out.2 (fun e => hz1 (by rw [HLNb.out, e.2]; rfl))
                have hc2 : c + 1 ≤ 2 := hnx.1
                have HQN : Hid (QS (c + 1) S5 m) := hnx.2
                have hz1b : ((nb : Int) == 0) = false := by simpa using hz1
                clear hnx HNX HIT
                subst hz0
                go_wp2_with fail
                go_roundw
                case rel => exact ⟨c + 1, hc2, by go_num, S5, col5, HGE.out, HIE.out, HQN.out⟩
                case measure => simp [intOf]; omega
            · have hnx := HNX.out.2 (fun e => hz0 (by rw [HLNa.out, e.1]; rfl))
              have hc2 : c + 1 ≤ 2 := hnx.1
              have HQN : Hid (QS (c + 1) S5 m) := hnx.2
              have hz0b : ((na : Int) == 0) = false := by simpa using hz0
              clear hnx HNX HIT
              go_wp2_with fail
              go_roundw
              case rel => exact ⟨c + 1, hc2, by go_num, S5, col5, HGE.out, HIE.out, HQN.out⟩
              case measure => simp [intOf]; omega
end Go.Proofs.Ytcjgicfmfjomgaa
namespace Go.Proofs.Ytcjgicfmfjomgaa
open Go.RowKit Go.PlainAid Go.MapKept
set_option linter.unusedVariables false
set_option linter.unusedSimpArgs false
theorem z64 : (-9223372036854775808 : Int) ≤ 0 ∧ (0 : Int) ≤ 9223372036854775807 := by decide
theorem o64 : (-9223372036854775808 : Int) ≤ 1 ∧ (1 : Int) ≤ 9223372036854775807 := by decide
theorem GO.trans {L xb : Nat} {S S' : Ln} {c0 c1 c2 : Nat → Nat} {w0 w1 w2 : World} (h : GO L xb S c0 w0 c1 w1) (k : GO L xb S' c1 w1 c2 w2) : GO L xb S' c0 w0 c2 w2 := by
  have hs := h.bl.size
  refine ⟨k.ln, h.bl.trans k.bl, fun j hj h8 => ?_, fun j hj => (k.cl j (Nat.lt_of_lt_of_le hj hs)).trans (h.cl j hj)⟩
  exact (k.kp j (Nat.lt_of_lt_of_le hj hs) (by rw [h.cl j hj]; exact h8)).trans (h.kp j hj h8)
/-- A line that comes to rest: i of its ticks have gone by. -/
structure CR (W : World) (L xb nb : Nat) (win : Nat → Nat) (n t i : Nat) (wr : World) : Prop where
  ex : ∃ S col, LNM L xb S col wr ∧ LInv S win n t ∧ RR (S.e 0).x (i : Int) ∧ RR (S.e 1).x (i : Int) ∧ (0 < i → QE (S.e 0).x (i : Int) ∧ QE (S.e 1).x (i : Int)) ∧ 8 ≤ col nb
  b : Blk wr nb #[.int .i64 (win 0 : Int), .int .i64 (win 1 : Int)] 51
  bl : Below W.heap.size W wr
  lo : W.heap.size ≤ L
theorem PL.cr {W : World} {L xb nb : Nat} {win : Nat → Nat} {n t : Nat} {wr : World} (h : PL W L xb nb win n t wr) : CR W L xb nb win n t 0 wr := by
  obtain ⟨S, col, h1, h2, h3, h4⟩ := h.ex
  exact ⟨⟨S, col, h1, h2, .inr (.inr (h2.ei 0 (by omega)).ag.1), .inr (.inr (h2.ei 1 (by omega)).ag.1), (fun e => by omega), h4⟩, h.b, h.bl, h.lo⟩
theorem CR.go {W : World} {L xb nb : Nat} {win : Nat → Nat} {n t i i' : Nat} {wr wr' : World} (h : CR W L xb nb win n t i wr) {S S' : Ln} {col col' : Nat → Nat} (h4 : 8 ≤ col nb) (hg : GO L xb S' col wr col' wr') (h2 : LInv S' win n t) (r0 : RR (S'.e 0).x (i' : Int)) (r1 : RR (S'.e 1).x (i' : Int)) (q : 0 < i' → QE (S'.e 0).x (i' : Int) ∧ QE (S'.e 1).x (i' : Int)) : CR W L xb nb win n t i' wr' :=
  ⟨⟨S', col', hg.ln, h2, r0, r1, q, by rw [hg.cl nb h.b.lt]; exact h4⟩, (hg.kp nb h.b.lt h4).trans h.b, h.bl.trans (hg.bl.mono h.lo), h.lo⟩
/-- A line at rest. -/
structure RS (W : World) (L xb nb : Nat) (win : Nat → Nat) (n t : Nat) (S : Ln) (wr : World) : Prop where
  ex : ∃ col, LNM L xb S col wr ∧ 8 ≤ col nb
  i : LInv S win n t
  z : ∀ k, k < 2 → (S.e k).x.box = [] ∧ (S.e k).x.under = [] ∧ (S.e k).x.due = false ∧ (S.e k).x.owed = false ∧ (S.e k).out = (S.e k).inn.length
  b : Blk wr nb #[.int .i64 (win 0 : Int), .int .i64 (win 1 : Int)] 51
  bl : Below W.heap.size W wr
  lo : W.heap.size ≤ L
theorem CR.rest {W : World} {L xb nb : Nat} {win : Nat → Nat} {n t : Nat} {wr : World} (h : CR W L xb nb win n t n wr) : ∃ S, RS W L xb nb win n t S wr := by
  obtain ⟨S, col, h1, h2, _, _, hq, h4⟩ := h.ex
  have hn := h2.hn
  obtain ⟨q0, q1⟩ := hq (by omega)
  have key : ∀ k, k < 2 → QE (S.e k).x (n : Int) → (S.e k).x.box = [] ∧ (S.e k).x.under = [] ∧ (S.e k).x.due = false ∧ (S.e k).x.owed = false ∧ (S.e k).out = (S.e k).inn.length := fun k hk q => by
    obtain ⟨a1, a2, a3, a4⟩ := q
    have hu : (S.e k).x.under = [] := by
      rcases a4 with e | e
      · exact e
      · have := (h2.ei k hk).ag
        omega
    refine ⟨a1, hu, a2, a3, ?_⟩
    obtain ⟨a, ha⟩ := h2.d k hk
    have l1 := ha.len
    have l2 := ha.ao
    have l3 := ha.go
    rw [List.length_map, hu, a1] at l1
    rw [hu] at l3
    simp at l1 l3
    omega
  refine ⟨S, ⟨col, h1, h4⟩, h2, fun k hk => ?_, h.b, h.bl, h.lo⟩
  rcases (by omega : k = 0 ∨ k = 1) with rfl | rfl
  · exact key 0 hk q0
  · exact key 1 hk q1
theorem RS.more {W : World} {L xb nb : Nat} {win : Nat → Nat} {n t : Nat} {S : Ln} {wr wr' : World} (h : RS W L xb nb win n t S wr) (hb : Below wr.heap.size wr wr') : RS W L xb nb win n t S wr' := by
  obtain ⟨col, h1, h4⟩ := h.ex
  exact ⟨⟨col, h1.more hb, h4⟩, h.i, h.z, Blk.below h.b hb h.b.lt, h.bl.trans (hb.mono h.bl.size), h.lo⟩
theorem rest_tells {x : LV} (h1 : x.box = []) (h2 : x.due = false) (h3 : x.owed = false) : outTells x = [] := by
  unfold outTells
  rw [h1, h2, h3]
  simp [tell]
set_option maxRecDepth 100000 in
set_option maxHeartbeats 6400000 in
theorem calm_law (x0 x1 x2 : Int) (h0 : -9223372036854775808 ≤ x0 ∧ x0 ≤ 9223372036854775807) (h1 : -9223372036854775808 ≤ x1 ∧ x1 ≤ 9223372036854775807) (h2 : -9223372036854775808 ≤ x2 ∧ x2 ≤ 9223372036854775807) (ao : Option Addr) (M cap : Nat) (os : List Mv) (W : World) (hl : os.length = M) (hMx : M ≤ 9223372036854775807)
    (hok : ∀ o ∈ os, o.ok W) (hat : 0 < M → ∃ b off, ao = some ⟨b, off, none⟩ ∧ ∀ i o, os[i]? = some o → RowAt W b (off + i * 4) o.row) (lo : Option Addr) (lnn lcc : Nat) (ls : List UInt8) (hlv : By W (.slice lo lnn lcc) ls) (hll : ls.length ≤ 140737488351232) :
    Calls Try.prog 6 #[.int .i64 x0, .int .i64 x1, .int .i64 x2, .slice ao M cap, .slice lo lnn lcc] W fun e w' => e = .returned (.bool true) ∧ Below W.heap.size W w' := by
  have HA : Hid _ := alive_any W
  have HW0 : Hid (∀ w, Calls Try.prog 15 #[.int .i64 x0, .int .i64 1, .int .i64 16] w _) := fun w => within_16 x0 w h0
  have HW1 : Hid (∀ w, Calls Try.prog 15 #[.int .i64 x1, .int .i64 1, .int .i64 16] w _) := fun w => within_16 x1 w h1
  have HBG : Hid (∀ w, Calls Try.prog 21 #[.int .i64 x0, .int .i64 x1, .int .i64 x2] w _) := fun w => begunS_any x0 x1 x2 w h0 h1 h2
  have HOK : Hid (∀ o ∈ os, o.ok W) := hok
  have HAT : Hid (0 < M → ∃ b off, ao = some ⟨b, off, none⟩ ∧ ∀ i o, os[i]? = some o → RowAt W b (off + i * 4) o.row) := hat
  have HL : Hid (os.length = M) := hl
  have HLV : Hid (By W (.slice lo lnn lcc) ls ∧ ls.length ≤ 140737488351232) := ⟨hlv, hll⟩
  have HW2 : Hid (∀ w, Calls Try.prog 15 #[.int .i64 x2, .int .i64 1, .int .i64 20] w _) := fun w => within_20 x2 w h2
  have hnw := wi_le x2 20 (by omega)
  obtain ⟨wa, hwa⟩ : ∃ wa, wa = wi x0 16 := ⟨_, rfl⟩
  obtain ⟨wb, hwb⟩ : ∃ wb, wb = wi x1 16 := ⟨_, rfl⟩
  obtain ⟨n, hn⟩ : ∃ n, n = wi x2 20 := ⟨_, rfl⟩
  rw [← hwa] at HW0 HBG
  rw [← hwb] at HW1 HBG
  rw [← hn] at HBG HW2 hnw
  clear hok hat hl hlv hll hwa hwb hn h0 h1 h2
  go_enter Try.func6, Try.ntmps6
  go_wp2_with fail
  refine Calls.mono HA.out ?_
  rintro e w1 ⟨rfl, hb1⟩
  have HB1 : Hid (Below W.heap.size W w1) := hb1
  clear hb1 HA
  go_wp2_with fail
  refine Calls.mono (HBG.out _) ?_
  rintro e w2 ⟨xb, S, col, rfl, hL2, hse, hI2, hb2⟩
  have HL2 : Hid (LNM w1.heap.size xb S col w2) := hL2
  have HI2 : Hid (LInv S (winOf wa wb) n 0) := hI2
  have HB2 : Hid (Below w1.heap.size w1 w2) := hb2
  have HSE : Hid (S.sent = []) := hse
  clear hL2 hI2 hb2 HBG hse
  go_wp2_with fail
  refine Calls.mono (HW0.out _) ?_
  rintro e w1' ⟨rfl, hw1'⟩
  replace hw1' := hw1'.symm
  subst hw1'
  go_wp2_with fail
  refine Calls.mono (HW1.out _) ?_
  rintro e w1' ⟨rfl, hw1'⟩
  replace hw1' := hw1'.symm
  subst hw1'
  clear HW0 HW1
  go_upto_region 6 with fail
  obtain ⟨w3, hw3⟩ : ∃ w3, w3 = w2.alloc (Obj.cells #[Value.int IntKind.i64 (wa : Int), Value.int IntKind.i64 (wb : Int)] 51) := ⟨_, rfl⟩
  obtain ⟨nb, hnb⟩ : ∃ nb, nb = w2.heap.size := ⟨_, rfl⟩
  have hb3 : Below w2.heap.size w2 w3 := by rw [hw3]; exact (Below.refl _ _).alloc (Nat.le_refl _) _
  have HP3 : Hid (PL W w1.heap.size xb nb (winOf wa wb) n 0 w3) := by
    refine ⟨⟨S, fun k => if k < w2.heap.size then col k else 9, (HL2.out.recol (fun k hk => if_pos hk)).more hb3, HI2.out, by rw [HSE.out]; simp, ?_⟩, ?_, HB1.out.trans ((HB2.out.mono HB1.out.size).trans (hb3.mono (Nat.le_trans HB1.out.size HB2.out.size))), HB1.out.size⟩
    · show 8 ≤ if nb < w2.heap.size then col nb else 9
      rw [if_neg (by omega)]
      omega
    · rw [hw3, hnb]
      exact heap_alloc_new w2 _
  rw [← hw3, ← hnb]
  clear hw3 hnb hb3 HL2 HI2 HB2 HSE HB1
  obtain ⟨L, hL⟩ : ∃ L, L = w1.heap.size := ⟨_, rfl⟩
  rw [← hL] at HP3
  clear hL
  go_wp2_with fail
  go_loopw [14] (fun s14 wr => ∃ i : Nat, i ≤ M ∧ i ≤ 300 ∧ s14 = .int .i64 (i : Int) ∧ PL W L xb nb (winOf wa wb) n i wr) (fun s14 _ => 300 - (intOf s14).toNat)
  case atStart => exact ⟨0, by omega, by omega, rfl, HP3.out⟩
  case round =>
    clear HP3
    obtain ⟨i, hi, hi3, rfl, hP⟩ := hrel
    have HP : Hid (PL W L xb nb (winOf wa wb) n i wr) := hP
    clear hP
    by_cases hiM : i < M
    · by_cases hi300 : i < 300
      · obtain ⟨ab, aof, hao, hrow⟩ := HAT.out (by omega)
        obtain ⟨o, ho⟩ : ∃ o, os[i]? = some o := ⟨os[i]'(by rw [HL.out]; exact hiM), List.getElem?_eq_getElem _⟩
        have hr := hrow i o ho
        have habl : ab < W.heap.size := hr.lt (by simp [Mv.row])
        have HCF : Hid (∀ wz, Below W.heap.size W wz → Blk wz nb #[.int .i64 (winOf wa wb 0 : Int), .int .i64 (winOf wa wb 1 : Int)] 51 → (wz.cell? ⟨ab, aof + i * 4, none⟩ = some (.int .i64 o.k) ∧ wz.cell? ⟨ab, aof + i * 4 + 1, none⟩ = some (.int .i64 o.w) ∧ wz.cell? ⟨ab, aof + i * 4 + 2, none⟩ = some (.int .i64 o.a) ∧ wz.cell? ⟨ab, aof + i * 4 + 3, none⟩ = some (o.d.v)) ∧ Blk wz nb #[.int .i64 (winOf wa wb 0 : Int), .int .i64 (winOf wa wb 1 : Int)] 51) := fun wz hb hn => by
          have h3 := hr.below hb habl
          exact ⟨⟨h3 0 _ rfl, h3 1 _ rfl, h3 2 _ rfl, h3 3 _ rfl⟩, hn⟩
        have HSTP : Hid _ := pl_step (HP.out.more (Below.refl _ _).drew) (by omega) o (HOK.out o (List.mem_of_getElem? ho))
        clear hr habl ho hrow
        have HAO : Hid (ao = some ⟨ab, aof, none⟩) := hao
        subst hao
        go_upto_region 9 with fail
        rename_i K hK
        try rw [show ∀ a : Act, a.put none undef = a from fun _ => rfl]
        refine wp_region_mix (fun wz => (wz.cell? ⟨ab, aof + i * 4, none⟩ = some (.int .i64 o.k) ∧ wz.cell? ⟨ab, aof + i * 4 + 1, none⟩ = some (.int .i64 o.w) ∧ wz.cell? ⟨ab, aof + i * 4 + 2, none⟩ = some (.int .i64 o.a) ∧ wz.cell? ⟨ab, aof + i * 4 + 3, none⟩ = some (o.d.v)) ∧ Blk wz nb #[.int .i64 (winOf wa wb 0 : Int), .int .i64 (winOf wa wb 1 : Int)] 51) (fun i => i == 6 || i == 99) 99 (by kernel_rfl) rfl (by kernel_rfl) (by kernel_rfl) (by kernel_rfl) ?_
        refine withFrP (N := 149) rfl ?_
        intro f0 F0 hff
        have e12 : f0 12 = Value.pointer (some ⟨xb, 0, none⟩) := hff 12
        have e3 : f0 3 = Value.slice (some ⟨ab, aof, none⟩) M cap := hff 3
        have e14 : f0 14 = Value.int .i64 (i : Int) := hff 14
        have e13 : f0 13 = Value.pointer (some ⟨nb, 0, none⟩) := hff 13
        clear hff
        have HCC : (fun wz => (wz.cell? ⟨ab, aof + i * 4, none⟩ = some (.int .i64 o.k) ∧ wz.cell? ⟨ab, aof + i * 4 + 1, none⟩ = some (.int .i64 o.w) ∧ wz.cell? ⟨ab, aof + i * 4 + 2, none⟩ = some (.int .i64 o.a) ∧ wz.cell? ⟨ab, aof + i * 4 + 3, none⟩ = some (o.d.v)) ∧ Blk wz nb #[.int .i64 (winOf wa wb 0 : Int), .int .i64 (winOf wa wb 1 : Int)] 51) (({ wr with drawn := wr.drawn + 1 } : World)) := HCF.out wr HP.out.bl HP.out.b
        refine lyp F0 rfl HCC rfl (by omega) (wanted_none rfl) (v := Value.pointer (some ⟨xb, 0, none⟩)) (fun wr hwr => by simp only [execOp, (F0.eval 12 (by omega)).trans (show _ = Value.pointer (some ⟨xb, 0, none⟩) from by simp [upd, e12, e3, e14, e13])]; first | rfl | simp [go_sem]) fun Fp1 => ?_
        refine lyp Fp1 rfl HCC rfl (by omega) (wanted_none rfl) (v := Value.slice (some ⟨ab, aof, none⟩) M cap) (fun wr hwr => by simp only [execOp, (Fp1.eval 3 (by omega)).trans (show _ = Value.slice (some ⟨ab, aof, none⟩) M cap from by simp [upd, e12, e3, e14, e13])]; first | rfl | simp [go_sem]) fun Fp2 => ?_
        refine lyp Fp2 rfl HCC rfl (by omega) (wanted_none rfl) (v := Value.int .i64 (i : Int)) (fun wr hwr => by simp only [execOp, (Fp2.eval 14 (by omega)).trans (show _ = Value.int .i64 (i : Int) from by simp [upd, e12, e3, e14, e13])]; first | rfl | simp [go_sem]) fun Fp3 => ?_
        refine lyp Fp3 rfl HCC rfl (by omega) (wanted_none rfl) (v := Value.pointer (some ⟨ab, aof + i * 4, none⟩)) (fun wr hwr => by simp only [execOp, (Fp3.eval 46 (by omega)).trans (show _ = Value.slice (some ⟨ab, aof, none⟩) M cap from by simp [upd, e12, e3, e14, e13]), (Fp3.eval 47 (by omega)).trans (show _ = Value.int .i64 (i : Int) from by simp [upd, e12, e3, e14, e13])]; simp only [Sem.run_bind, Sem.run_pure, Result.andThen_ok, idx_run 48 54 4 Try.underlying48 (by kernel_rfl) _ ab aof M cap i hiM, Nat.zero_add, Nat.mul_one]; try rfl) fun Fp4 => ?_
        refine lyp Fp4 rfl HCC rfl (by omega) (wanted_none rfl) (v := Value.agg #[.int .i64 o.k, .int .i64 o.w, .int .i64 o.a, o.d.v]) (fun wr hwr => by simp only [execOp, (Fp4.eval 48 (by omega)).trans (show _ = Value.pointer (some ⟨ab, aof + i * 4, none⟩) from by simp [upd, e12, e3, e14, e13])]; simp only [Sem.run_bind, Sem.run_pure, Result.andThen_ok, load4at hwr.1]; try rfl) fun Fp5 => ?_
        refine lyp Fp5 rfl HCC rfl (by omega) (wanted_none rfl) (v := Value.agg #[.int .i64 (winOf wa wb 0 : Int), .int .i64 (winOf wa wb 1 : Int)]) (fun wr hwr => by simp only [execOp, (Fp5.eval 13 (by omega)).trans (show _ = Value.pointer (some ⟨nb, 0, none⟩) from by simp [upd, e12, e3, e14, e13])]; simp only [Sem.run_bind, Sem.run_pure, Result.andThen_ok, load2 hwr.2]; try rfl) fun Fp6 => ?_
        refine lcp Fp6 rfl HCC rfl (by omega) (wanted_none rfl) (g := 22) (args := #[Value.pointer (some ⟨xb, 0, none⟩), Value.agg #[.int .i64 o.k, .int .i64 o.w, .int .i64 o.a, o.d.v], Value.agg #[.int .i64 (winOf wa wb 0 : Int), .int .i64 (winOf wa wb 1 : Int)]]) (by simp only [execOp, resolve, invoke, List.map_toArray, List.map_cons, List.map_nil, (Fp6.eval 45 (by omega)).trans (show _ = Value.pointer (some ⟨xb, 0, none⟩) from by simp [upd, e12, e3, e14, e13]), (Fp6.eval 49 (by omega)).trans (show _ = Value.agg #[.int .i64 o.k, .int .i64 o.w, .int .i64 o.a, o.d.v] from by simp [upd, e12, e3, e14, e13]), (Fp6.eval 50 (by omega)).trans (show _ = Value.agg #[.int .i64 (winOf wa wb 0 : Int), .int .i64 (winOf wa wb 1 : Int)] from by simp [upd, e12, e3, e14, e13])]; simp [go_sem, Act.eval]) HSTP.out ?_
        rintro e w5 ⟨rfl, hP5⟩
        refine ⟨_, rfl, fun Fp7 => ?_⟩
        have HC5 : (fun wz => (wz.cell? ⟨ab, aof + i * 4, none⟩ = some (.int .i64 o.k) ∧ wz.cell? ⟨ab, aof + i * 4 + 1, none⟩ = some (.int .i64 o.w) ∧ wz.cell? ⟨ab, aof + i * 4 + 2, none⟩ = some (.int .i64 o.a) ∧ wz.cell? ⟨ab, aof + i * 4 + 3, none⟩ = some (o.d.v)) ∧ Blk wz nb #[.int .i64 (winOf wa wb 0 : Int), .int .i64 (winOf wa wb 1 : Int)] 51) w5 := HCF.out w5 hP5.bl hP5.b
        refine lyp Fp7 rfl HC5 rfl (by omega) (wanted_none rfl) (v := Value.bool false) (fun wr hwr => by simp only [execOp, (Fp7.eval 51 (by omega)).trans (show _ = Value.bool true from by simp [upd, e12, e3, e14, e13])]; simp [go_sem, Act.eval]) fun Fp8 => ?_
        refine ⟨fun _ => HC5, ?_⟩
        refine hK _ _ ?_
        clear F0 Fp1 Fp2 Fp3 Fp4 Fp5 Fp6 Fp7 Fp8 e12 e3 e14 e13 HCC HC5
        simp only [Act.put, List.setIfInBounds_toArray, List.set_cons_succ, List.set_cons_zero]
        have HP5 : Hid (PL W L xb nb (winOf wa wb) n (i + 1) w5) := hP5
        clear hP5 HSTP HCF
        go_wp2_with fail
        go_roundw
        case rel => exact ⟨i + 1, by omega, by omega, by go_num, HP5.out⟩
        case measure => simp [intOf]; omega
      · have hi3' : ¬ (i : Int) < 300 := by omega
        have n0 : wr.cell? ⟨nb, 0, none⟩ = some (.int .i64 (winOf wa wb 0 : Int)) := HP.out.b.cell 0
        have n1 : wr.cell? ⟨nb, 1, none⟩ = some (.int .i64 (winOf wa wb 1 : Int)) := HP.out.b.cell 1
        have HM0 : Hid (Mv.ok W ⟨0, 0, 0, ⟨.slice lo lnn lcc, ls⟩⟩) := ⟨z64, z64, z64, HLV.out.1, HLV.out.2⟩
        have HM1 : Hid (Mv.ok W ⟨0, 1, 0, ⟨.slice lo lnn lcc, ls⟩⟩) := ⟨z64, o64, z64, HLV.out.1, HLV.out.2⟩
        go_wp2_with fail
        refine Calls.mono (pl_step HP.out (by omega) ⟨0, 0, 0, ⟨.slice lo lnn lcc, ls⟩⟩ HM0.out) ?_
        rintro e w8 ⟨rfl, hP8⟩
        have HP8 : Hid (PL W L xb nb (winOf wa wb) n (i + 1) w8) := hP8
        clear n0 n1
        have n0 : w8.cell? ⟨nb, 0, none⟩ = some (.int .i64 (winOf wa wb 0 : Int)) := hP8.b.cell 0
        have n1 : w8.cell? ⟨nb, 1, none⟩ = some (.int .i64 (winOf wa wb 1 : Int)) := hP8.b.cell 1
        clear hP8
        go_wp2_with fail
        refine Calls.mono (pl_step HP8.out (by omega) ⟨0, 1, 0, ⟨.slice lo lnn lcc, ls⟩⟩ HM1.out) ?_
        rintro e w9 ⟨rfl, hP9⟩
        obtain ⟨t, ht⟩ : ∃ t, t = i + 1 + 1 := ⟨_, rfl⟩
        have ht4 : t ≤ 400 := by omega
        rw [← ht] at hP9
        have HC9 : Hid (CR W L xb nb (winOf wa wb) n t 0 w9) := hP9.cr
        clear hP9 n0 n1 ht HP8 HP HM0 HM1
        go_wp2_with fail
        refine Calls.mono (HW2.out _) ?_
        rintro e w1' ⟨rfl, hw1'⟩
        replace hw1' := hw1'.symm
        subst hw1'
        clear HW2
        go_wp2_with fail
        go_loopw [17] (fun s17 wr => ∃ j : Nat, j ≤ n ∧ s17 = .int .i64 (j : Int) ∧ CR W L xb nb (winOf wa wb) n t j wr) (fun s17 _ => n - (intOf s17).toNat)
        case atStart => exact ⟨0, by omega, rfl, HC9.out⟩
        case round =>
          clear HC9
          obtain ⟨j, hj, rfl, hC⟩ := hrel
          have HC : Hid (CR W L xb nb (winOf wa wb) n t j wr) := hC
          by_cases hjn : j < n
          · obtain ⟨S, col, g1, g2, g3, g4, g5, g6⟩ := hC.ex
            have HG : Hid (GO L xb S col wr col wr) := GO.refl g1
            have HIV : Hid (LInv S (winOf wa wb) n t) := g2
            have HRR : Hid (RR (S.e 0).x (j : Int) ∧ RR (S.e 1).x (j : Int)) := ⟨g3, g4⟩
            have HNB : Hid (8 ≤ col nb) := g6
            have c0 : wr.cell? ⟨xb, 0, none⟩ = some (.pointer (some ⟨(S.e 0).lb, 0, none⟩)) := g1.b.cell 0
            clear g1 g2 g3 g4 g5 g6 hC
            go_wp2_with fail
            refine Calls.mono (tick_any wr (HG.out.ln.em 0 (by omega)).lm (by have := (HIV.out.ei 0 (by omega)).ag; have := HIV.out.hn; omega)) ?_
            rintro e w3 ⟨rfl, hM3, hs3⟩
            obtain ⟨col3, hg3⟩ := HG.out.endX (i := 0) (by omega) hM3 hs3
            obtain ⟨S3, hS3⟩ : ∃ S3, S3 = S.endX 0 (S.e 0).uv (S.e 0).x.tick := ⟨_, rfl⟩
            rw [← hS3] at hg3
            have HG3 : Hid (GO L xb S3 col wr col3 w3) := hg3
            have HI3 : Hid (LInv S3 (winOf wa wb) n t) := show LInv _ _ _ _ from by rw [hS3]; exact HIV.out.tick (by omega) _
            have HR3 : Hid (RR (S3.e 0).x ((j : Int) + 1) ∧ (S3.e 1) = S.e 1) := show _ ∧ _ from by
              rw [hS3, Ln.endX_same]
              exact ⟨HRR.out.1.tick, Ln.endX_ne _ _ _ (by decide)⟩
            have c1 : w3.cell? ⟨xb, 1, none⟩ = some (.pointer (some ⟨(S3.e 1).lb, 0, none⟩)) := hg3.ln.b.cell 1
            clear hM3 hs3 hg3 hS3 c0
            go_wp2_with fail
            refine Calls.mono (tick_any w3 (HG3.out.ln.em 1 (by omega)).lm (by have := (HI3.out.ei 1 (by omega)).ag; have := HI3.out.hn; omega)) ?_
            rintro e w4 ⟨rfl, hM4, hs4⟩
            obtain ⟨col4, hg4⟩ := HG3.out.endX (i := 1) (by omega) hM4 hs4
            obtain ⟨S4, hS4⟩ : ∃ S4, S4 = S3.endX 1 (S3.e 1).uv (S3.e 1).x.tick := ⟨_, rfl⟩
            rw [← hS4] at hg4
            have HG4 : Hid (GO L xb S4 col wr col4 w4) := hg4
            have HI4 : Hid (LInv S4 (winOf wa wb) n t) := show LInv _ _ _ _ from by rw [hS4]; exact HI3.out.tick (by omega) _
            have HR4 : Hid (RR (S4.e 0).x ((j : Int) + 1) ∧ RR (S4.e 1).x ((j : Int) + 1)) := show _ ∧ _ from by
              rw [hS4, Ln.endX_same, Ln.endX_ne _ _ _ (by decide)]
              refine ⟨HR3.out.1, ?_⟩
              show RR (S3.e 1).x.tick _
              rw [HR3.out.2]
              exact HRR.out.2.tick
            clear hM4 hs4 hg4 hS4 c1
            go_wp2_with fail
            refine Calls.mono (quiet_any ((j : Int) + 1) w4 HG4.out.ln HI4.out ht4 HR4.out.1 HR4.out.2) ?_
            rintro e w5 ⟨rfl, S5, col5, hg5, hi5, hq0, hq1⟩
            have HC5 : Hid (CR W L xb nb (winOf wa wb) n t (j + 1) w5) := HC.out.go (S := S) HNB.out (HG4.out.trans hg5) hi5 hq0.rr hq1.rr (fun _ => ⟨hq0, hq1⟩)
            clear hg5 hi5 hq0 hq1 HG HG3 HG4 HIV HI3 HI4 HRR HR3 HR4 HNB HC
            go_wp2_with fail
            go_roundw
            case rel => exact ⟨j + 1, by omega, by go_num, HC5.out⟩
            case measure => simp [intOf]; omega
          · have hjn2 : j = n := by omega
            rw [hjn2] at HC ⊢
            obtain ⟨S, hRS⟩ := HC.out.rest
            have HRS : Hid (RS W L xb nb (winOf wa wb) n t S wr) := hRS
            clear hRS HC hjn hj hC hjn2
            go_wp2_with fail
            go_loopw [18] (fun s18 wr => ∃ j : Nat, j ≤ 2 ∧ s18 = .int .i64 (j : Int) ∧ RS W L xb nb (winOf wa wb) n t S wr) (fun s18 _ => 2 - (intOf s18).toNat)
            case atStart => exact ⟨0, by omega, rfl, HRS.out⟩
            case round =>
              clear HRS
              obtain ⟨j, hj, rfl, hR⟩ := hrel
              have HR : Hid (RS W L xb nb (winOf wa wb) n t S wr) := hR
              clear hR
              rcases (by omega : j = 0 ∨ j = 1 ∨ j = 2) with rfl | rfl | rfl
              · have hz := HR.out.z 0 (by omega)
                obtain ⟨col, g1, g4⟩ := HR.out.ex
                obtain ⟨io, ic, hiv, un0⟩ := own_slice (g1.em 0 (by omega)).ir
                clear un0
                obtain ⟨il, hil⟩ : ∃ il, il = (S.e 0).inn.length := ⟨_, rfl⟩
                rw [← hil] at hiv
                have hil4 : il ≤ 400 := by have := (HR.out.i.ei 0 (by omega)).ts; omega
                obtain ⟨lj, hlj⟩ : ∃ lj, lj = (S.e 0).lb := ⟨_, rfl⟩
                have hxl := g1.b.lt
                have hnl := HR.out.b.lt
                have VO : ∀ wz, Below wr.heap.size wr wz → wz.cell? ⟨xb, 4, none⟩ = some (.int .i64 (il : Int)) := fun wz hb => (hb.cell (p := ⟨xb, 4, none⟩) hxl).trans (by rw [hil, ← hz.2.2.2.2]; exact g1.b.cell 4)
                have VI : ∀ wz, Below wr.heap.size wr wz → wz.cell? ⟨xb, 2, none⟩ = some (.slice io il ic) := fun wz hb => (hb.cell (p := ⟨xb, 2, none⟩) hxl).trans (by rw [← hiv]; exact g1.b.cell 2)
                have VL : ∀ wz, Below wr.heap.size wr wz → wz.cell? ⟨xb, 0, none⟩ = some (.pointer (some ⟨lj, 0, none⟩)) := fun wz hb => (hb.cell (p := ⟨xb, 0, none⟩) hxl).trans (by rw [hlj]; exact g1.b.cell 0)
                have VW : ∀ wz, Below wr.heap.size wr wz → wz.cell? ⟨nb, 0, none⟩ = some (.int .i64 (winOf wa wb 0 : Int)) := fun wz hb => (hb.cell (p := ⟨nb, 0, none⟩) hnl).trans (HR.out.b.cell 0)
                have hnm := HR.out.i.nums (i := 0) (by omega)
                have hun := under_any wr.drew ((g1.em 0 (by omega)).lm.more (Below.refl _ _).drew) (by have := hnm.1; omega) (by have := hnm.2.1; omega) (by have := hnm.2.2.1; omega) (fun d hd => by rw [hz.2.1] at hd; cases hd)
                rw [← hlj] at hun
                have HUN : Hid (Calls Try.prog 14 #[.pointer (some ⟨lj, 0, none⟩)] wr.drew _) := hun
                have HU0 : Hid (∀ (v5 : Value) (l5 : List Sgm) (w5 : World), l5.map Sgm.pr = tell (S.e 0).x.me (S.e 0).x.peer ((S.e 0).x.next - 1) ((S.e 0).x.acked + 1) ((S.e 0).x.under.map Dv.s) → SL wr.drew.heap.size v5 l5 w5 → ∃ vo5 vc5, v5 = .slice vo5 0 vc5) := fun v5 l5 w5 hl hS => by
                  obtain ⟨vo5, vc5, hv5, _⟩ := own_slice hS.r
                  have h1 := congrArg List.length hl
                  rw [List.length_map, tell_len, List.length_map, hz.2.1] at h1
                  have h2 : l5.length = 0 := h1
                  rw [h2] at hv5
                  exact ⟨vo5, vc5, hv5⟩
                have HRM : Hid (∀ w5, Below wr.heap.size wr w5 → Calls Try.prog 12 #[.pointer (some ⟨lj, 0, none⟩)] w5 fun e w' => e = .returned (.int .i64 (winOf wa wb 0 : Int)) ∧ ∃ q, w' = w5.drewN q) := fun w5 hb => by
                  rw [hlj]
                  refine (room_any w5 ((g1.em 0 (by omega)).lm.more hb) hnm.2.2.2.2.2.1 (by have := hnm.2.2.2.1; omega) (by have := hnm.2.2.1; omega)).mono ?_
                  rintro e w' ⟨rfl, hq⟩
                  refine ⟨?_, hq⟩
                  rw [hz.1, hz.2.1, (HR.out.i.ei 0 (by omega)).wi]
                  simp
                clear hz g1 g4 hiv hil hlj hxl hnl hnm hun
                go_upto_region 25 with fail
                rename_i K hK
                try rw [show ∀ a : Act, a.put none undef = a from fun _ => rfl]
                refine wp_region_mix (fun wz => Below wr.heap.size wr wz) (fun i => i == 21 || i == 32 || i == 99) 99 (by kernel_rfl) rfl (by kernel_rfl) (by kernel_rfl) (by kernel_rfl) ?_
                refine withFrP (N := 149) rfl ?_
                intro f0 F0 hff
                have e12 : f0 12 = Value.pointer (some ⟨xb, 0, none⟩) := hff 12
                have e18 : f0 18 = Value.int .i64 0 := hff 18
                have e13 : f0 13 = Value.pointer (some ⟨nb, 0, none⟩) := hff 13
                clear hff
                have HCC : (fun wz => Below wr.heap.size wr wz) (({ wr with drawn := wr.drawn + 1 } : World)) := (Below.refl _ _).drew
                refine lyp F0 rfl HCC rfl (by omega) (wanted_none rfl) (v := Value.pointer (some ⟨xb, 0, none⟩)) (fun wr hwr => by simp only [execOp, (F0.eval 12 (by omega)).trans (show _ = Value.pointer (some ⟨xb, 0, none⟩) from by simp [upd, e12, e18, e13])]; first | rfl | simp [go_sem]) fun Fp1 => ?_
                refine lyp Fp1 rfl HCC rfl (by omega) (wanted_none rfl) (v := Value.int .i64 0) (fun wr hwr => by simp only [execOp, (Fp1.eval 18 (by omega)).trans (show _ = Value.int .i64 0 from by simp [upd, e12, e18, e13])]; first | rfl | simp [go_sem]) fun Fp2 => ?_
                refine lyp Fp2 rfl HCC rfl (by omega) (wanted_none rfl) (v := Value.pointer (some ⟨xb, 0, none⟩)) (fun wr hwr => by simp only [execOp, (Fp2.eval 93 (by omega)).trans (show _ = Value.pointer (some ⟨xb, 0, none⟩) from by simp [upd, e12, e18, e13])]; simp [go_sem]) fun Fp3 => ?_
                refine lyp Fp3 rfl HCC rfl (by omega) (wanted_none rfl) (v := Value.pointer (some ⟨xb, 4, none⟩)) (fun wr hwr => by simp only [execOp, (Fp3.eval 95 (by omega)).trans (show _ = Value.pointer (some ⟨xb, 0, none⟩) from by simp [upd, e12, e18, e13])]; simp [go_sem]) fun Fp4 => ?_
                refine lyp Fp4 rfl HCC rfl (by omega) (wanted_none rfl) (v := Value.pointer (some ⟨xb, 4, none⟩)) (fun wr hwr => by simp only [execOp, (Fp4.eval 96 (by omega)).trans (show _ = Value.pointer (some ⟨xb, 4, none⟩) from by simp [upd, e12, e18, e13]), (Fp4.eval 94 (by omega)).trans (show _ = Value.int .i64 0 from by simp [upd, e12, e18, e13])]; simp [go_sem, Act.eval]) fun Fp5 => ?_
                refine lyp Fp5 rfl HCC rfl (by omega) (wanted_none rfl) (v := Value.int .i64 (il : Int)) (fun wr hwr => by simp only [execOp, (Fp5.eval 97 (by omega)).trans (show _ = Value.pointer (some ⟨xb, 4, none⟩) from by simp [upd, e12, e18, e13])]; simp [go_sem, VO wr hwr]) fun Fp6 => ?_
                refine lyp Fp6 rfl HCC rfl (by omega) (wanted_none rfl) (v := Value.pointer (some ⟨xb, 0, none⟩)) (fun wr hwr => by simp only [execOp, (Fp6.eval 12 (by omega)).trans (show _ = Value.pointer (some ⟨xb, 0, none⟩) from by simp [upd, e12, e18, e13])]; first | rfl | simp [go_sem]) fun Fp7 => ?_
                refine lyp Fp7 rfl HCC rfl (by omega) (wanted_none rfl) (v := Value.int .i64 0) (fun wr hwr => by simp only [execOp, (Fp7.eval 18 (by omega)).trans (show _ = Value.int .i64 0 from by simp [upd, e12, e18, e13])]; first | rfl | simp [go_sem]) fun Fp8 => ?_
                refine lyp Fp8 rfl HCC rfl (by omega) (wanted_none rfl) (v := Value.pointer (some ⟨xb, 0, none⟩)) (fun wr hwr => by simp only [execOp, (Fp8.eval 99 (by omega)).trans (show _ = Value.pointer (some ⟨xb, 0, none⟩) from by simp [upd, e12, e18, e13])]; simp [go_sem]) fun Fp9 => ?_
                refine lyp Fp9 rfl HCC rfl (by omega) (wanted_none rfl) (v := Value.pointer (some ⟨xb, 2, none⟩)) (fun wr hwr => by simp only [execOp, (Fp9.eval 101 (by omega)).trans (show _ = Value.pointer (some ⟨xb, 0, none⟩) from by simp [upd, e12, e18, e13])]; simp [go_sem]) fun Fp10 => ?_
                refine lyp Fp10 rfl HCC rfl (by omega) (wanted_none rfl) (v := Value.pointer (some ⟨xb, 2, none⟩)) (fun wr hwr => by simp only [execOp, (Fp10.eval 102 (by omega)).trans (show _ = Value.pointer (some ⟨xb, 2, none⟩) from by simp [upd, e12, e18, e13]), (Fp10.eval 100 (by omega)).trans (show _ = Value.int .i64 0 from by simp [upd, e12, e18, e13])]; simp [go_sem, Act.eval]) fun Fp11 => ?_
                refine lyp Fp11 rfl HCC rfl (by omega) (wanted_none rfl) (v := Value.slice io il ic) (fun wr hwr => by simp only [execOp, (Fp11.eval 103 (by omega)).trans (show _ = Value.pointer (some ⟨xb, 2, none⟩) from by simp [upd, e12, e18, e13])]; simp [go_sem, VI wr hwr]) fun Fp12 => ?_
                refine lyp Fp12 rfl HCC rfl (by omega) (wanted_none rfl) (v := Value.int .i64 (il : Nat)) (fun wr hwr => by simp only [execOp, resolve, invoke, builtin, List.map_toArray, List.map_cons, List.map_nil, (Fp12.eval 104 (by omega)).trans (show _ = Value.slice io il ic from by simp [upd, e12, e18, e13])]; simp [go_sem, Builtin.len_, Builtin.lenOf]) fun Fp13 => ?_
                refine lyp Fp13 rfl HCC rfl (by omega) (wanted_none rfl) (v := Value.bool false) (fun wr hwr => by simp only [execOp, (Fp13.eval 98 (by omega)).trans (show _ = Value.int .i64 (il : Int) from by simp [upd, e12, e18, e13]), (Fp13.eval 105 (by omega)).trans (show _ = Value.int .i64 (il : Nat) from by simp [upd, e12, e18, e13])]; simp [go_sem, Act.eval]) fun Fp14 => ?_
                refine lyp Fp14 rfl HCC rfl (by omega) (wanted_none rfl) (v := Value.bool false) (fun wr hwr => by simp only [execOp, (Fp14.eval 106 (by omega)).trans (show _ = Value.bool false from by simp [upd, e12, e18, e13])]; first | rfl | simp [go_sem]) fun Fp15 => ?_
                refine lyp Fp15 rfl HCC rfl (by omega) (want_yes Fp15 rfl (e := 107) rfl (by omega) (show _ = Value.bool false from by simp [upd, e12, e18, e13])) (v := Value.pointer (some ⟨xb, 0, none⟩)) (fun wr hwr => by simp only [execOp, (Fp15.eval 12 (by omega)).trans (show _ = Value.pointer (some ⟨xb, 0, none⟩) from by simp [upd, e12, e18, e13])]; first | rfl | simp [go_sem]) fun Fp16 => ?_
                refine lyp Fp16 rfl HCC rfl (by omega) (want_yes Fp16 rfl (e := 107) rfl (by omega) (show _ = Value.bool false from by simp [upd, e12, e18, e13])) (v := Value.int .i64 0) (fun wr hwr => by simp only [execOp, (Fp16.eval 18 (by omega)).trans (show _ = Value.int .i64 0 from by simp [upd, e12, e18, e13])]; first | rfl | simp [go_sem]) fun Fp17 => ?_
                refine lyp Fp17 rfl HCC rfl (by omega) (want_yes Fp17 rfl (e := 107) rfl (by omega) (show _ = Value.bool false from by simp [upd, e12, e18, e13])) (v := Value.pointer (some ⟨xb, 0, none⟩)) (fun wr hwr => by simp only [execOp, (Fp17.eval 108 (by omega)).trans (show _ = Value.pointer (some ⟨xb, 0, none⟩) from by simp [upd, e12, e18, e13])]; simp [go_sem]) fun Fp18 => ?_
                refine lyp Fp18 rfl HCC rfl (by omega) (want_yes Fp18 rfl (e := 107) rfl (by omega) (show _ = Value.bool false from by simp [upd, e12, e18, e13])) (v := Value.pointer (some ⟨xb, 0, none⟩)) (fun wr hwr => by simp only [execOp, (Fp18.eval 110 (by omega)).trans (show _ = Value.pointer (some ⟨xb, 0, none⟩) from by simp [upd, e12, e18, e13])]; simp [go_sem]) fun Fp19 => ?_
                refine lyp Fp19 rfl HCC rfl (by omega) (want_yes Fp19 rfl (e := 107) rfl (by omega) (show _ = Value.bool false from by simp [upd, e12, e18, e13])) (v := Value.pointer (some ⟨xb, 0, none⟩)) (fun wr hwr => by simp only [execOp, (Fp19.eval 111 (by omega)).trans (show _ = Value.pointer (some ⟨xb, 0, none⟩) from by simp [upd, e12, e18, e13]), (Fp19.eval 109 (by omega)).trans (show _ = Value.int .i64 0 from by simp [upd, e12, e18, e13])]; simp [go_sem, Act.eval]) fun Fp20 => ?_
                refine lyp Fp20 rfl HCC rfl (by omega) (want_yes Fp20 rfl (e := 107) rfl (by omega) (show _ = Value.bool false from by simp [upd, e12, e18, e13])) (v := Value.pointer (some ⟨lj, 0, none⟩)) (fun wr hwr => by simp only [execOp, (Fp20.eval 112 (by omega)).trans (show _ = Value.pointer (some ⟨xb, 0, none⟩) from by simp [upd, e12, e18, e13])]; simp [go_sem, VL wr hwr]) fun Fp21 => ?_
                refine lcp Fp21 rfl HCC rfl (by omega) (want_yes Fp21 rfl (e := 107) rfl (by omega) (show _ = Value.bool false from by simp [upd, e12, e18, e13])) (g := 14) (args := #[Value.pointer (some ⟨lj, 0, none⟩)]) (by simp only [execOp, resolve, invoke, List.map_toArray, List.map_cons, List.map_nil, (Fp21.eval 113 (by omega)).trans (show _ = Value.pointer (some ⟨lj, 0, none⟩) from by simp [upd, e12, e18, e13])]; simp [go_sem, Act.eval]) HUN.out ?_
                rintro e w5 ⟨v5, l5, rfl, hl5, hSL5, hb5⟩
                obtain ⟨vo5, vc5, hv5⟩ : ∃ vo5 vc5, v5 = .slice vo5 0 vc5 := HU0.out v5 l5 w5 hl5 hSL5
                subst hv5
                refine ⟨_, rfl, fun Fp22 => ?_⟩
                have HC5 : (fun wz => Below wr.heap.size wr wz) w5 := Below.undrew hb5
                refine lyp Fp22 rfl HC5 rfl (by omega) (want_yes Fp22 rfl (e := 107) rfl (by omega) (show _ = Value.bool false from by simp [upd, e12, e18, e13])) (v := Value.int .i64 (0 : Nat)) (fun wr hwr => by simp only [execOp, resolve, invoke, builtin, List.map_toArray, List.map_cons, List.map_nil, (Fp22.eval 114 (by omega)).trans (show _ = Value.slice vo5 0 vc5 from by simp [upd, e12, e18, e13])]; simp [go_sem, Builtin.len_, Builtin.lenOf]) fun Fp23 => ?_
                refine lyp Fp23 rfl HC5 rfl (by omega) (want_yes Fp23 rfl (e := 107) rfl (by omega) (show _ = Value.bool false from by simp [upd, e12, e18, e13])) (v := Value.bool false) (fun wr hwr => by simp only [execOp, (Fp23.eval 115 (by omega)).trans (show _ = Value.int .i64 (0 : Nat) from by simp [upd, e12, e18, e13])]; simp [go_sem, Act.eval]) fun Fp24 => ?_
                refine lyp Fp24 rfl HC5 rfl (by omega) (wanted_none rfl) (v := Value.bool false) (fun wr hwr => by simp only [execOp, (Fp24.eval 107 (by omega)).trans (show _ = Value.bool false from by simp [upd, e12, e18, e13]), (Fp24.eval 116 (by omega)).trans (show _ = Value.bool false from by simp [upd, e12, e18, e13])]; simp [go_sem, Act.eval]) fun Fp25 => ?_
                refine lyp Fp25 rfl HC5 rfl (by omega) (wanted_none rfl) (v := Value.bool false) (fun wr hwr => by simp only [execOp, (Fp25.eval 117 (by omega)).trans (show _ = Value.bool false from by simp [upd, e12, e18, e13])]; first | rfl | simp [go_sem]) fun Fp26 => ?_
                refine lyp Fp26 rfl HC5 rfl (by omega) (want_yes Fp26 rfl (e := 118) rfl (by omega) (show _ = Value.bool false from by simp [upd, e12, e18, e13])) (v := Value.pointer (some ⟨xb, 0, none⟩)) (fun wr hwr => by simp only [execOp, (Fp26.eval 12 (by omega)).trans (show _ = Value.pointer (some ⟨xb, 0, none⟩) from by simp [upd, e12, e18, e13])]; first | rfl | simp [go_sem]) fun Fp27 => ?_
                refine lyp Fp27 rfl HC5 rfl (by omega) (want_yes Fp27 rfl (e := 118) rfl (by omega) (show _ = Value.bool false from by simp [upd, e12, e18, e13])) (v := Value.int .i64 0) (fun wr hwr => by simp only [execOp, (Fp27.eval 18 (by omega)).trans (show _ = Value.int .i64 0 from by simp [upd, e12, e18, e13])]; first | rfl | simp [go_sem]) fun Fp28 => ?_
                refine lyp Fp28 rfl HC5 rfl (by omega) (want_yes Fp28 rfl (e := 118) rfl (by omega) (show _ = Value.bool false from by simp [upd, e12, e18, e13])) (v := Value.pointer (some ⟨xb, 0, none⟩)) (fun wr hwr => by simp only [execOp, (Fp28.eval 119 (by omega)).trans (show _ = Value.pointer (some ⟨xb, 0, none⟩) from by simp [upd, e12, e18, e13])]; simp [go_sem]) fun Fp29 => ?_
                refine lyp Fp29 rfl HC5 rfl (by omega) (want_yes Fp29 rfl (e := 118) rfl (by omega) (show _ = Value.bool false from by simp [upd, e12, e18, e13])) (v := Value.pointer (some ⟨xb, 0, none⟩)) (fun wr hwr => by simp only [execOp, (Fp29.eval 121 (by omega)).trans (show _ = Value.pointer (some ⟨xb, 0, none⟩) from by simp [upd, e12, e18, e13])]; simp [go_sem]) fun Fp30 => ?_
                refine lyp Fp30 rfl HC5 rfl (by omega) (want_yes Fp30 rfl (e := 118) rfl (by omega) (show _ = Value.bool false from by simp [upd, e12, e18, e13])) (v := Value.pointer (some ⟨xb, 0, none⟩)) (fun wr hwr => by simp only [execOp, (Fp30.eval 122 (by omega)).trans (show _ = Value.pointer (some ⟨xb, 0, none⟩) from by simp [upd, e12, e18, e13]), (Fp30.eval 120 (by omega)).trans (show _ = Value.int .i64 0 from by simp [upd, e12, e18, e13])]; simp [go_sem, Act.eval]) fun Fp31 => ?_
                refine lyp Fp31 rfl HC5 rfl (by omega) (want_yes Fp31 rfl (e := 118) rfl (by omega) (show _ = Value.bool false from by simp [upd, e12, e18, e13])) (v := Value.pointer (some ⟨lj, 0, none⟩)) (fun wr hwr => by simp only [execOp, (Fp31.eval 123 (by omega)).trans (show _ = Value.pointer (some ⟨xb, 0, none⟩) from by simp [upd, e12, e18, e13])]; simp [go_sem, VL wr hwr]) fun Fp32 => ?_
                refine lcp Fp32 rfl HC5 rfl (by omega) (want_yes Fp32 rfl (e := 118) rfl (by omega) (show _ = Value.bool false from by simp [upd, e12, e18, e13])) (g := 12) (args := #[Value.pointer (some ⟨lj, 0, none⟩)]) (by simp only [execOp, resolve, invoke, List.map_toArray, List.map_cons, List.map_nil, (Fp32.eval 124 (by omega)).trans (show _ = Value.pointer (some ⟨lj, 0, none⟩) from by simp [upd, e12, e18, e13])]; simp [go_sem, Act.eval]) (HRM.out w5 HC5) ?_
                rintro e w6 ⟨rfl, q6, rfl⟩
                refine ⟨_, rfl, fun Fp33 => ?_⟩
                have HC6 : (fun wz => Below wr.heap.size wr wz) (w5.drewN q6) := below_drewN HC5 q6
                refine lyp Fp33 rfl HC6 rfl (by omega) (want_yes Fp33 rfl (e := 118) rfl (by omega) (show _ = Value.bool false from by simp [upd, e12, e18, e13])) (v := Value.int .i64 0) (fun wr hwr => by simp only [execOp, (Fp33.eval 18 (by omega)).trans (show _ = Value.int .i64 0 from by simp [upd, e12, e18, e13])]; first | rfl | simp [go_sem]) fun Fp34 => ?_
                refine lyp Fp34 rfl HC6 rfl (by omega) (want_yes Fp34 rfl (e := 118) rfl (by omega) (show _ = Value.bool false from by simp [upd, e12, e18, e13])) (v := Value.pointer (some ⟨nb, 0, none⟩)) (fun wr hwr => by simp only [execOp, (Fp34.eval 13 (by omega)).trans (show _ = Value.pointer (some ⟨nb, 0, none⟩) from by simp [upd, e12, e18, e13]), (Fp34.eval 126 (by omega)).trans (show _ = Value.int .i64 0 from by simp [upd, e12, e18, e13])]; simp [go_sem, Act.eval]) fun Fp35 => ?_
                refine lyp Fp35 rfl HC6 rfl (by omega) (want_yes Fp35 rfl (e := 118) rfl (by omega) (show _ = Value.bool false from by simp [upd, e12, e18, e13])) (v := Value.int .i64 (winOf wa wb 0 : Int)) (fun wr hwr => by simp only [execOp, (Fp35.eval 127 (by omega)).trans (show _ = Value.pointer (some ⟨nb, 0, none⟩) from by simp [upd, e12, e18, e13])]; simp [go_sem, VW wr hwr]) fun Fp36 => ?_
                refine lyp Fp36 rfl HC6 rfl (by omega) (want_yes Fp36 rfl (e := 118) rfl (by omega) (show _ = Value.bool false from by simp [upd, e12, e18, e13])) (v := Value.bool false) (fun wr hwr => by simp only [execOp, (Fp36.eval 125 (by omega)).trans (show _ = Value.int .i64 (winOf wa wb 0 : Int) from by simp [upd, e12, e18, e13]), (Fp36.eval 128 (by omega)).trans (show _ = Value.int .i64 (winOf wa wb 0 : Int) from by simp [upd, e12, e18, e13])]; simp [go_sem, Act.eval]) fun Fp37 => ?_
                refine lyp Fp37 rfl HC6 rfl (by omega) (wanted_none rfl) (v := Value.bool false) (fun wr hwr => by simp only [execOp, (Fp37.eval 118 (by omega)).trans (show _ = Value.bool false from by simp [upd, e12, e18, e13]), (Fp37.eval 129 (by omega)).trans (show _ = Value.bool false from by simp [upd, e12, e18, e13])]; simp [go_sem, Act.eval]) fun Fp38 => ?_
                refine ⟨fun _ => HC6, ?_⟩
                refine hK _ _ ?_
                clear F0 Fp1 Fp2 Fp3 Fp4 Fp5 Fp6 Fp7 Fp8 Fp9 Fp10 Fp11 Fp12 Fp13 Fp14 Fp15 Fp16 Fp17 Fp18 Fp19 Fp20 Fp21 Fp22 Fp23 Fp24 Fp25 Fp26 Fp27 Fp28 Fp29 Fp30 Fp31 Fp32 Fp33 Fp34 Fp35 Fp36 Fp37 Fp38 e12 e18 e13 HCC HC6
                simp only [Act.put, List.setIfInBounds_toArray, List.set_cons_succ, List.set_cons_zero]
                have HR6 : Hid (RS W L xb nb (winOf wa wb) n t S (w5.drewN q6)) := HR.out.more (below_drewN (Below.undrew hb5) q6)
                clear VO VI VL VW HUN HU0 HRM hl5 hSL5 hb5
                go_wp2_with fail
                go_roundw
                case rel => exact ⟨0 + 1, by omega, by go_num, HR6.out⟩
                case measure => simp [intOf]
              · have hz := HR.out.z 1 (by omega)
                obtain ⟨col, g1, g4⟩ := HR.out.ex
                obtain ⟨io, ic, hiv, un0⟩ := own_slice (g1.em 1 (by omega)).ir
                clear un0
                obtain ⟨il, hil⟩ : ∃ il, il = (S.e 1).inn.length := ⟨_, rfl⟩
                rw [← hil] at hiv
                have hil4 : il ≤ 400 := by have := (HR.out.i.ei 1 (by omega)).ts; omega
                obtain ⟨lj, hlj⟩ : ∃ lj, lj = (S.e 1).lb := ⟨_, rfl⟩
                have hxl := g1.b.lt
                have hnl := HR.out.b.lt
                have VO : ∀ wz, Below wr.heap.size wr wz → wz.cell? ⟨xb, 5, none⟩ = some (.int .i64 (il : Int)) := fun wz hb => (hb.cell (p := ⟨xb, 5, none⟩) hxl).trans (by rw [hil, ← hz.2.2.2.2]; exact g1.b.cell 5)
                have VI : ∀ wz, Below wr.heap.size wr wz → wz.cell? ⟨xb, 3, none⟩ = some (.slice io il ic) := fun wz hb => (hb.cell (p := ⟨xb, 3, none⟩) hxl).trans (by rw [← hiv]; exact g1.b.cell 3)
                have VL : ∀ wz, Below wr.heap.size wr wz → wz.cell? ⟨xb, 1, none⟩ = some (.pointer (some ⟨lj, 0, none⟩)) := fun wz hb => (hb.cell (p := ⟨xb, 1, none⟩) hxl).trans (by rw [hlj]; exact g1.b.cell 1)
                have VW : ∀ wz, Below wr.heap.size wr wz → wz.cell? ⟨nb, 1, none⟩ = some (.int .i64 (winOf wa wb 1 : Int)) := fun wz hb => (hb.cell (p := ⟨nb, 1, none⟩) hnl).trans (HR.out.b.cell 1)
                have hnm := HR.out.i.nums (i := 1) (by omega)
                have hun := under_any wr.drew ((g1.em 1 (by omega)).lm.more (Below.refl _ _).drew) (by have := hnm.1; omega) (by have := hnm.2.1; omega) (by have := hnm.2.2.1; omega) (fun d hd => by rw [hz.2.1] at hd; cases hd)
                rw [← hlj] at hun
                have HUN : Hid (Calls Try.prog 14 #[.pointer (some ⟨lj, 0, none⟩)] wr.drew _) := hun
                have HU0 : Hid (∀ (v5 : Value) (l5 : List Sgm) (w5 : World), l5.map Sgm.pr = tell (S.e 1).x.me (S.e 1).x.peer ((S.e 1).x.next - 1) ((S.e 1).x.acked + 1) ((S.e 1).x.under.map Dv.s) → SL wr.drew.heap.size v5 l5 w5 → ∃ vo5 vc5, v5 = .slice vo5 0 vc5) := fun v5 l5 w5 hl hS => by
                  obtain ⟨vo5, vc5, hv5, _⟩ := own_slice hS.r
                  have h1 := congrArg List.length hl
                  rw [List.length_map, tell_len, List.length_map, hz.2.1] at h1
                  have h2 : l5.length = 0 := h1
                  rw [h2] at hv5
                  exact ⟨vo5, vc5, hv5⟩
                have HRM : Hid (∀ w5, Below wr.heap.size wr w5 → Calls Try.prog 12 #[.pointer (some ⟨lj, 0, none⟩)] w5 fun e w' => e = .returned (.int .i64 (winOf wa wb 1 : Int)) ∧ ∃ q, w' = w5.drewN q) := fun w5 hb => by
                  rw [hlj]
                  refine (room_any w5 ((g1.em 1 (by omega)).lm.more hb) hnm.2.2.2.2.2.1 (by have := hnm.2.2.2.1; omega) (by have := hnm.2.2.1; omega)).mono ?_
                  rintro e w' ⟨rfl, hq⟩
                  refine ⟨?_, hq⟩
                  rw [hz.1, hz.2.1, (HR.out.i.ei 1 (by omega)).wi]
                  simp
                clear hz g1 g4 hiv hil hlj hxl hnl hnm hun
                go_upto_region 25 with fail
                rename_i K hK
                try rw [show ∀ a : Act, a.put none undef = a from fun _ => rfl]
                refine wp_region_mix (fun wz => Below wr.heap.size wr wz) (fun i => i == 21 || i == 32 || i == 99) 99 (by kernel_rfl) rfl (by kernel_rfl) (by kernel_rfl) (by kernel_rfl) ?_
                refine withFrP (N := 149) rfl ?_
                intro f0 F0 hff
                have e12 : f0 12 = Value.pointer (some ⟨xb, 0, none⟩) := hff 12
                have e18 : f0 18 = Value.int .i64 1 := hff 18
                have e13 : f0 13 = Value.pointer (some ⟨nb, 0, none⟩) := hff 13
                clear hff
                have HCC : (fun wz => Below wr.heap.size wr wz) (({ wr with drawn := wr.drawn + 1 } : World)) := (Below.refl _ _).drew
                refine lyp F0 rfl HCC rfl (by omega) (wanted_none rfl) (v := Value.pointer (some ⟨xb, 0, none⟩)) (fun wr hwr => by simp only [execOp, (F0.eval 12 (by omega)).trans (show _ = Value.pointer (some ⟨xb, 0, none⟩) from by simp [upd, e12, e18, e13])]; first | rfl | simp [go_sem]) fun Fp1 => ?_
                refine lyp Fp1 rfl HCC rfl (by omega) (wanted_none rfl) (v := Value.int .i64 1) (fun wr hwr => by simp only [execOp, (Fp1.eval 18 (by omega)).trans (show _ = Value.int .i64 1 from by simp [upd, e12, e18, e13])]; first | rfl | simp [go_sem]) fun Fp2 => ?_
                refine lyp Fp2 rfl HCC rfl (by omega) (wanted_none rfl) (v := Value.pointer (some ⟨xb, 0, none⟩)) (fun wr hwr => by simp only [execOp, (Fp2.eval 93 (by omega)).trans (show _ = Value.pointer (some ⟨xb, 0, none⟩) from by simp [upd, e12, e18, e13])]; simp [go_sem]) fun Fp3 => ?_
                refine lyp Fp3 rfl HCC rfl (by omega) (wanted_none rfl) (v := Value.pointer (some ⟨xb, 4, none⟩)) (fun wr hwr => by simp only [execOp, (Fp3.eval 95 (by omega)).trans (show _ = Value.pointer (some ⟨xb, 0, none⟩) from by simp [upd, e12, e18, e13])]; simp [go_sem]) fun Fp4 => ?_
                refine lyp Fp4 rfl HCC rfl (by omega) (wanted_none rfl) (v := Value.pointer (some ⟨xb, 5, none⟩)) (fun wr hwr => by simp only [execOp, (Fp4.eval 96 (by omega)).trans (show _ = Value.pointer (some ⟨xb, 4, none⟩) from by simp [upd, e12, e18, e13]), (Fp4.eval 94 (by omega)).trans (show _ = Value.int .i64 1 from by simp [upd, e12, e18, e13])]; simp [go_sem, Act.eval]) fun Fp5 => ?_
                refine lyp Fp5 rfl HCC rfl (by omega) (wanted_none rfl) (v := Value.int .i64 (il : Int)) (fun wr hwr => by simp only [execOp, (Fp5.eval 97 (by omega)).trans (show _ = Value.pointer (some ⟨xb, 5, none⟩) from by simp [upd, e12, e18, e13])]; simp [go_sem, VO wr hwr]) fun Fp6 => ?_
                refine lyp Fp6 rfl HCC rfl (by omega) (wanted_none rfl) (v := Value.pointer (some ⟨xb, 0, none⟩)) (fun wr hwr => by simp only [execOp, (Fp6.eval 12 (by omega)).trans (show _ = Value.pointer (some ⟨xb, 0, none⟩) from by simp [upd, e12, e18, e13])]; first | rfl | simp [go_sem]) fun Fp7 => ?_
                refine lyp Fp7 rfl HCC rfl (by omega) (wanted_none rfl) (v := Value.int .i64 1) (fun wr hwr => by simp only [execOp, (Fp7.eval 18 (by omega)).trans (show _ = Value.int .i64 1 from by simp [upd, e12, e18, e13])]; first | rfl | simp [go_sem]) fun Fp8 => ?_
                refine lyp Fp8 rfl HCC rfl (by omega) (wanted_none rfl) (v := Value.pointer (some ⟨xb, 0, none⟩)) (fun wr hwr => by simp only [execOp, (Fp8.eval 99 (by omega)).trans (show _ = Value.pointer (some ⟨xb, 0, none⟩) from by simp [upd, e12, e18, e13])]; simp [go_sem]) fun Fp9 => ?_
                refine lyp Fp9 rfl HCC rfl (by omega) (wanted_none rfl) (v := Value.pointer (some ⟨xb, 2, none⟩)) (fun wr hwr => by simp only [execOp, (Fp9.eval 101 (by omega)).trans (show _ = Value.pointer (some ⟨xb, 0, none⟩) from by simp [upd, e12, e18, e13])]; simp [go_sem]) fun Fp10 => ?_
                refine lyp Fp10 rfl HCC rfl (by omega) (wanted_none rfl) (v := Value.pointer (some ⟨xb, 3, none⟩)) (fun wr hwr => by simp only [execOp, (Fp10.eval 102 (by omega)).trans (show _ = Value.pointer (some ⟨xb, 2, none⟩) from by simp [upd, e12, e18, e13]), (Fp10.eval 100 (by omega)).trans (show _ = Value.int .i64 1 from by simp [upd, e12, e18, e13])]; simp [go_sem, Act.eval]) fun Fp11 => ?_
                refine lyp Fp11 rfl HCC rfl (by omega) (wanted_none rfl) (v := Value.slice io il ic) (fun wr hwr => by simp only [execOp, (Fp11.eval 103 (by omega)).trans (show _ = Value.pointer (some ⟨xb, 3, none⟩) from by simp [upd, e12, e18, e13])]; simp [go_sem, VI wr hwr]) fun Fp12 => ?_
                refine lyp Fp12 rfl HCC rfl (by omega) (wanted_none rfl) (v := Value.int .i64 (il : Nat)) (fun wr hwr => by simp only [execOp, resolve, invoke, builtin, List.map_toArray, List.map_cons, List.map_nil, (Fp12.eval 104 (by omega)).trans (show _ = Value.slice io il ic from by simp [upd, e12, e18, e13])]; simp [go_sem, Builtin.len_, Builtin.lenOf]) fun Fp13 => ?_
                refine lyp Fp13 rfl HCC rfl (by omega) (wanted_none rfl) (v := Value.bool false) (fun wr hwr => by simp only [execOp, (Fp13.eval 98 (by omega)).trans (show _ = Value.int .i64 (il : Int) from by simp [upd, e12, e18, e13]), (Fp13.eval 105 (by omega)).trans (show _ = Value.int .i64 (il : Nat) from by simp [upd, e12, e18, e13])]; simp [go_sem, Act.eval]) fun Fp14 => ?_
                refine lyp Fp14 rfl HCC rfl (by omega) (wanted_none rfl) (v := Value.bool false) (fun wr hwr => by simp only [execOp, (Fp14.eval 106 (by omega)).trans (show _ = Value.bool false from by simp [upd, e12, e18, e13])]; first | rfl | simp [go_sem]) fun Fp15 => ?_
                refine lyp Fp15 rfl HCC rfl (by omega) (want_yes Fp15 rfl (e := 107) rfl (by omega) (show _ = Value.bool false from by simp [upd, e12, e18, e13])) (v := Value.pointer (some ⟨xb, 0, none⟩)) (fun wr hwr => by simp only [execOp, (Fp15.eval 12 (by omega)).trans (show _ = Value.pointer (some ⟨xb, 0, none⟩) from by simp [upd, e12, e18, e13])]; first | rfl | simp [go_sem]) fun Fp16 => ?_
                refine lyp Fp16 rfl HCC rfl (by omega) (want_yes Fp16 rfl (e := 107) rfl (by omega) (show _ = Value.bool false from by simp [upd, e12, e18, e13])) (v := Value.int .i64 1) (fun wr hwr => by simp only [execOp, (Fp16.eval 18 (by omega)).trans (show _ = Value.int .i64 1 from by simp [upd, e12, e18, e13])]; first | rfl | simp [go_sem]) fun Fp17 => ?_
                refine lyp Fp17 rfl HCC rfl (by omega) (want_yes Fp17 rfl (e := 107) rfl (by omega) (show _ = Value.bool false from by simp [upd, e12, e18, e13])) (v := Value.pointer (some ⟨xb, 0, none⟩)) (fun wr hwr => by simp only [execOp, (Fp17.eval 108 (by omega)).trans (show _ = Value.pointer (some ⟨xb, 0, none⟩) from by simp [upd, e12, e18, e13])]; simp [go_sem]) fun Fp18 => ?_
                refine lyp Fp18 rfl HCC rfl (by omega) (want_yes Fp18 rfl (e := 107) rfl (by omega) (show _ = Value.bool false from by simp [upd, e12, e18, e13])) (v := Value.pointer (some ⟨xb, 0, none⟩)) (fun wr hwr => by simp only [execOp, (Fp18.eval 110 (by omega)).trans (show _ = Value.pointer (some ⟨xb, 0, none⟩) from by simp [upd, e12, e18, e13])]; simp [go_sem]) fun Fp19 => ?_
                refine lyp Fp19 rfl HCC rfl (by omega) (want_yes Fp19 rfl (e := 107) rfl (by omega) (show _ = Value.bool false from by simp [upd, e12, e18, e13])) (v := Value.pointer (some ⟨xb, 1, none⟩)) (fun wr hwr => by simp only [execOp, (Fp19.eval 111 (by omega)).trans (show _ = Value.pointer (some ⟨xb, 0, none⟩) from by simp [upd, e12, e18, e13]), (Fp19.eval 109 (by omega)).trans (show _ = Value.int .i64 1 from by simp [upd, e12, e18, e13])]; simp [go_sem, Act.eval]) fun Fp20 => ?_
                refine lyp Fp20 rfl HCC rfl (by omega) (want_yes Fp20 rfl (e := 107) rfl (by omega) (show _ = Value.bool false from by simp [upd, e12, e18, e13])) (v := Value.pointer (some ⟨lj, 0, none⟩)) (fun wr hwr => by simp only [execOp, (Fp20.eval 112 (by omega)).trans (show _ = Value.pointer (some ⟨xb, 1, none⟩) from by simp [upd, e12, e18, e13])]; simp [go_sem, VL wr hwr]) fun Fp21 => ?_
                refine lcp Fp21 rfl HCC rfl (by omega) (want_yes Fp21 rfl (e := 107) rfl (by omega) (show _ = Value.bool false from by simp [upd, e12, e18, e13])) (g := 14) (args := #[Value.pointer (some ⟨lj, 0, none⟩)]) (by simp only [execOp, resolve, invoke, List.map_toArray, List.map_cons, List.map_nil, (Fp21.eval 113 (by omega)).trans (show _ = Value.pointer (some ⟨lj, 0, none⟩) from by simp [upd, e12, e18, e13])]; simp [go_sem, Act.eval]) HUN.out ?_
                rintro e w5 ⟨v5, l5, rfl, hl5, hSL5, hb5⟩
                obtain ⟨vo5, vc5, hv5⟩ : ∃ vo5 vc5, v5 = .slice vo5 0 vc5 := HU0.out v5 l5 w5 hl5 hSL5
                subst hv5
                refine ⟨_, rfl, fun Fp22 => ?_⟩
                have HC5 : (fun wz => Below wr.heap.size wr wz) w5 := Below.undrew hb5
                refine lyp Fp22 rfl HC5 rfl (by omega) (want_yes Fp22 rfl (e := 107) rfl (by omega) (show _ = Value.bool false from by simp [upd, e12, e18, e13])) (v := Value.int .i64 (0 : Nat)) (fun wr hwr => by simp only [execOp, resolve, invoke, builtin, List.map_toArray, List.map_cons, List.map_nil, (Fp22.eval 114 (by omega)).trans (show _ = Value.slice vo5 0 vc5 from by simp [upd, e12, e18, e13])]; simp [go_sem, Builtin.len_, Builtin.lenOf]) fun Fp23 => ?_
                refine lyp Fp23 rfl HC5 rfl (by omega) (want_yes Fp23 rfl (e := 107) rfl (by omega) (show _ = Value.bool false from by simp [upd, e12, e18, e13])) (v := Value.bool false) (fun wr hwr => by simp only [execOp, (Fp23.eval 115 (by omega)).trans (show _ = Value.int .i64 (0 : Nat) from by simp [upd, e12, e18, e13])]; simp [go_sem, Act.eval]) fun Fp24 => ?_
                refine lyp Fp24 rfl HC5 rfl (by omega) (wanted_none rfl) (v := Value.bool false) (fun wr hwr => by simp only [execOp, (Fp24.eval 107 (by omega)).trans (show _ = Value.bool false from by simp [upd, e12, e18, e13]), (Fp24.eval 116 (by omega)).trans (show _ = Value.bool false from by simp [upd, e12, e18, e13])]; simp [go_sem, Act.eval]) fun Fp25 => ?_
                refine lyp Fp25 rfl HC5 rfl (by omega) (wanted_none rfl) (v := Value.bool false) (fun wr hwr => by simp only [execOp, (Fp25.eval 117 (by omega)).trans (show _ = Value.bool false from by simp [upd, e12, e18, e13])]; first | rfl | simp [go_sem]) fun Fp26 => ?_
                refine lyp Fp26 rfl HC5 rfl (by omega) (want_yes Fp26 rfl (e := 118) rfl (by omega) (show _ = Value.bool false from by simp [upd, e12, e18, e13])) (v := Value.pointer (some ⟨xb, 0, none⟩)) (fun wr hwr => by simp only [execOp, (Fp26.eval 12 (by omega)).trans (show _ = Value.pointer (some ⟨xb, 0, none⟩) from by simp [upd, e12, e18, e13])]; first | rfl | simp [go_sem]) fun Fp27 => ?_
                refine lyp Fp27 rfl HC5 rfl (by omega) (want_yes Fp27 rfl (e := 118) rfl (by omega) (show _ = Value.bool false from by simp [upd, e12, e18, e13])) (v := Value.int .i64 1) (fun wr hwr => by simp only [execOp, (Fp27.eval 18 (by omega)).trans (show _ = Value.int .i64 1 from by simp [upd, e12, e18, e13])]; first | rfl | simp [go_sem]) fun Fp28 => ?_
                refine lyp Fp28 rfl HC5 rfl (by omega) (want_yes Fp28 rfl (e := 118) rfl (by omega) (show _ = Value.bool false from by simp [upd, e12, e18, e13])) (v := Value.pointer (some ⟨xb, 0, none⟩)) (fun wr hwr => by simp only [execOp, (Fp28.eval 119 (by omega)).trans (show _ = Value.pointer (some ⟨xb, 0, none⟩) from by simp [upd, e12, e18, e13])]; simp [go_sem]) fun Fp29 => ?_
                refine lyp Fp29 rfl HC5 rfl (by omega) (want_yes Fp29 rfl (e := 118) rfl (by omega) (show _ = Value.bool false from by simp [upd, e12, e18, e13])) (v := Value.pointer (some ⟨xb, 0, none⟩)) (fun wr hwr => by simp only [execOp, (Fp29.eval 121 (by omega)).trans (show _ = Value.pointer (some ⟨xb, 0, none⟩) from by simp [upd, e12, e18, e13])]; simp [go_sem]) fun Fp30 => ?_
                refine lyp Fp30 rfl HC5 rfl (by omega) (want_yes Fp30 rfl (e := 118) rfl (by omega) (show _ = Value.bool false from by simp [upd, e12, e18, e13])) (v := Value.pointer (some ⟨xb, 1, none⟩)) (fun wr hwr => by simp only [execOp, (Fp30.eval 122 (by omega)).trans (show _ = Value.pointer (some ⟨xb, 0, none⟩) from by simp [upd, e12, e18, e13]), (Fp30.eval 120 (by omega)).trans (show _ = Value.int .i64 1 from by simp [upd, e12, e18, e13])]; simp [go_sem, Act.eval]) fun Fp31 => ?_
                refine lyp Fp31 rfl HC5 rfl (by omega) (want_yes Fp31 rfl (e := 118) rfl (by omega) (show _ = Value.bool false from by simp [upd, e12, e18, e13])) (v := Value.pointer (some ⟨lj, 0, none⟩)) (fun wr hwr => by simp only [execOp, (Fp31.eval 123 (by omega)).trans (show _ = Value.pointer (some ⟨xb, 1, none⟩) from by simp [upd, e12, e18, e13])]; simp [go_sem, VL wr hwr]) fun Fp32 => ?_
                refine lcp Fp32 rfl HC5 rfl (by omega) (want_yes Fp32 rfl (e := 118) rfl (by omega) (show _ = Value.bool false from by simp [upd, e12, e18, e13])) (g := 12) (args := #[Value.pointer (some ⟨lj, 0, none⟩)]) (by simp only [execOp, resolve, invoke, List.map_toArray, List.map_cons, List.map_nil, (Fp32.eval 124 (by omega)).trans (show _ = Value.pointer (some ⟨lj, 0, none⟩) from by simp [upd, e12, e18, e13])]; simp [go_sem, Act.eval]) (HRM.out w5 HC5) ?_
                rintro e w6 ⟨rfl, q6, rfl⟩
                refine ⟨_, rfl, fun Fp33 => ?_⟩
                have HC6 : (fun wz => Below wr.heap.size wr wz) (w5.drewN q6) := below_drewN HC5 q6
                refine lyp Fp33 rfl HC6 rfl (by omega) (want_yes Fp33 rfl (e := 118) rfl (by omega) (show _ = Value.bool false from by simp [upd, e12, e18, e13])) (v := Value.int .i64 1) (fun wr hwr => by simp only [execOp, (Fp33.eval 18 (by omega)).trans (show _ = Value.int .i64 1 from by simp [upd, e12, e18, e13])]; first | rfl | simp [go_sem]) fun Fp34 => ?_
                refine lyp Fp34 rfl HC6 rfl (by omega) (want_yes Fp34 rfl (e := 118) rfl (by omega) (show _ = Value.bool false from by simp [upd, e12, e18, e13])) (v := Value.pointer (some ⟨nb, 1, none⟩)) (fun wr hwr => by simp only [execOp, (Fp34.eval 13 (by omega)).trans (show _ = Value.pointer (some ⟨nb, 0, none⟩) from by simp [upd, e12, e18, e13]), (Fp34.eval 126 (by omega)).trans (show _ = Value.int .i64 1 from by simp [upd, e12, e18, e13])]; simp [go_sem, Act.eval]) fun Fp35 => ?_
                refine lyp Fp35 rfl HC6 rfl (by omega) (want_yes Fp35 rfl (e := 118) rfl (by omega) (show _ = Value.bool false from by simp [upd, e12, e18, e13])) (v := Value.int .i64 (winOf wa wb 1 : Int)) (fun wr hwr => by simp only [execOp, (Fp35.eval 127 (by omega)).trans (show _ = Value.pointer (some ⟨nb, 1, none⟩) from by simp [upd, e12, e18, e13])]; simp [go_sem, VW wr hwr]) fun Fp36 => ?_
                refine lyp Fp36 rfl HC6 rfl (by omega) (want_yes Fp36 rfl (e := 118) rfl (by omega) (show _ = Value.bool false from by simp [upd, e12, e18, e13])) (v := Value.bool false) (fun wr hwr => by simp only [execOp, (Fp36.eval 125 (by omega)).trans (show _ = Value.int .i64 (winOf wa wb 1 : Int) from by simp [upd, e12, e18, e13]), (Fp36.eval 128 (by omega)).trans (show _ = Value.int .i64 (winOf wa wb 1 : Int) from by simp [upd, e12, e18, e13])]; simp [go_sem, Act.eval]) fun Fp37 => ?_
                refine lyp Fp37 rfl HC6 rfl (by omega) (wanted_none rfl) (v := Value.bool false) (fun wr hwr => by simp only [execOp, (Fp37.eval 118 (by omega)).trans (show _ = Value.bool false from by simp [upd, e12, e18, e13]), (Fp37.eval 129 (by omega)).trans (show _ = Value.bool false from by simp [upd, e12, e18, e13])]; simp [go_sem, Act.eval]) fun Fp38 => ?_
                refine ⟨fun _ => HC6, ?_⟩
                refine hK _ _ ?_
                clear F0 Fp1 Fp2 Fp3 Fp4 Fp5 Fp6 Fp7 Fp8 Fp9 Fp10 Fp11 Fp12 Fp13 Fp14 Fp15 Fp16 Fp17 Fp18 Fp19 Fp20 Fp21 Fp22 Fp23 Fp24 Fp25 Fp26 Fp27 Fp28 Fp29 Fp30 Fp31 Fp32 Fp33 Fp34 Fp35 Fp36 Fp37 Fp38 e12 e18 e13 HCC HC6
                simp only [Act.put, List.setIfInBounds_toArray, List.set_cons_succ, List.set_cons_zero]
                have HR6 : Hid (RS W L xb nb (winOf wa wb) n t S (w5.drewN q6)) := HR.out.more (below_drewN (Below.undrew hb5) q6)
                clear VO VI VL VW HUN HU0 HRM hl5 hSL5 hb5
                go_wp2_with fail
                go_roundw
                case rel => exact ⟨1 + 1, by omega, by go_num, HR6.out⟩
                case measure => simp [intOf]
              · obtain ⟨col, g1, g4⟩ := HR.out.ex
                have c0 : wr.cell? ⟨xb, 0, none⟩ = some (.pointer (some ⟨(S.e 0).lb, 0, none⟩)) := g1.b.cell 0
                have HG : Hid (GO L xb S col wr col wr) := GO.refl g1
                clear g1 g4
                go_wp2_with fail
                refine Calls.mono (out_any wr (HG.out.ln.em 0 (by omega)).lm (by have := (HR.out.i.nums (i := 0) (by omega)).1; omega) (by have := (HR.out.i.nums (i := 0) (by omega)).2.1; omega) (by have := (HR.out.i.nums (i := 0) (by omega)).2.2.1; omega) (by have := (HR.out.i.nums (i := 0) (by omega)).2.2.2.1; omega) (fun d hd => by have := (HR.out.i.nums (i := 0) (by omega)).2.2.2.2.1 d hd; omega)) ?_
                rintro e w4 ⟨v4, uv4, l4, rfl, hl4, hSL4, hM4, hs4, hdj4⟩
                have hz := HR.out.z 0 (by omega)
                rw [rest_tells hz.1 hz.2.2.1 hz.2.2.2.1] at hl4
                obtain rfl : l4 = [] := List.map_eq_nil_iff.1 hl4
                obtain ⟨vo4, vc4, hv4, un4⟩ := own_slice hSL4.r
                subst hv4
                obtain ⟨col4, hg4⟩ := HG.out.endX (i := 0) (by omega) hM4 hs4
                obtain ⟨S4, hS4⟩ : ∃ S4, S4 = S.endX 0 uv4 ((S.e 0).x.calm.moved (S.e 0).x.box.length) := ⟨_, rfl⟩
                rw [← hS4] at hg4
                have HG4 : Hid (GO L xb S4 col wr col4 w4) := hg4
                have e41 : S4.e 1 = S.e 1 := by rw [hS4]; exact Ln.endX_ne _ _ _ (by decide)
                have HI4 : Hid (LInv S4 (winOf wa wb) n t) := show LInv _ _ _ _ from by rw [hS4]; exact (HR.out.i.out (i := 0) (by omega) uv4).1
                have c1 : w4.cell? ⟨xb, 1, none⟩ = some (.pointer (some ⟨(S4.e 1).lb, 0, none⟩)) := hg4.ln.b.cell 1
                have HE41 : Hid (S4.e 1 = S.e 1) := e41
                clear hz hl4 hSL4 hM4 hs4 hdj4 un4 hg4 hS4 e41 c0
                go_wp2_with fail
                refine Calls.mono (out_any w4 (HG4.out.ln.em 1 (by omega)).lm (by have := (HI4.out.nums (i := 1) (by omega)).1; omega) (by have := (HI4.out.nums (i := 1) (by omega)).2.1; omega) (by have := (HI4.out.nums (i := 1) (by omega)).2.2.1; omega) (by have := (HI4.out.nums (i := 1) (by omega)).2.2.2.1; omega) (fun d hd => by have := (HI4.out.nums (i := 1) (by omega)).2.2.2.2.1 d hd; omega)) ?_
                rintro e w5 ⟨v5, uv5, l5, rfl, hl5, hSL5, hM5, hs5, hdj5⟩
                have hz := HR.out.z 1 (by omega)
                rw [HE41.out, rest_tells hz.1 hz.2.2.1 hz.2.2.2.1] at hl5
                obtain rfl : l5 = [] := List.map_eq_nil_iff.1 hl5
                obtain ⟨vo5, vc5, hv5, un5⟩ := own_slice hSL5.r
                subst hv5
                obtain ⟨col5, hg5⟩ := HG4.out.endX (i := 1) (by omega) hM5 hs5
                have HB5 : Hid (Below W.heap.size W w5) := show Below _ _ _ from HR.out.bl.trans (hg5.bl.mono HR.out.lo)
                clear hz hl5 hSL5 hM5 hs5 hdj5 un5 hg5 c1
                go_wp2_with fail
                go_ret
                exact ⟨rfl, HB5.out⟩
    · have hiM' : ¬ (i : Int) < (M : Int) := by omega
      have n0 : wr.cell? ⟨nb, 0, none⟩ = some (.int .i64 (winOf wa wb 0 : Int)) := HP.out.b.cell 0
      have n1 : wr.cell? ⟨nb, 1, none⟩ = some (.int .i64 (winOf wa wb 1 : Int)) := HP.out.b.cell 1
      have HM0 : Hid (Mv.ok W ⟨0, 0, 0, ⟨.slice lo lnn lcc, ls⟩⟩) := ⟨z64, z64, z64, HLV.out.1, HLV.out.2⟩
      have HM1 : Hid (Mv.ok W ⟨0, 1, 0, ⟨.slice lo lnn lcc, ls⟩⟩) := ⟨z64, o64, z64, HLV.out.1, HLV.out.2⟩
      go_wp2_with fail
      refine Calls.mono (pl_step HP.out (by omega) ⟨0, 0, 0, ⟨.slice lo lnn lcc, ls⟩⟩ HM0.out) ?_
      rintro e w8 ⟨rfl, hP8⟩
      have HP8 : Hid (PL W L xb nb (winOf wa wb) n (i + 1) w8) := hP8
      clear n0 n1
      have n0 : w8.cell? ⟨nb, 0, none⟩ = some (.int .i64 (winOf wa wb 0 : Int)) := hP8.b.cell 0
      have n1 : w8.cell? ⟨nb, 1, none⟩ = some (.int .i64 (winOf wa wb 1 : Int)) := hP8.b.cell 1
      clear hP8
      go_wp2_with fail
      refine Calls.mono (pl_step HP8.out (by omega) ⟨0, 1, 0, ⟨.slice lo lnn lcc, ls⟩⟩ HM1.out) ?_
      rintro e w9 ⟨rfl, hP9⟩
      obtain ⟨t, ht⟩ : ∃ t, t = i + 1 + 1 := ⟨_, rfl⟩
      have ht4 : t ≤ 400 := by omega
      rw [← ht] at hP9
      have HC9 : Hid (CR W L xb nb (winOf wa wb) n t 0 w9) := hP9.cr
      clear hP9 n0 n1 ht HP8 HP HM0 HM1
      go_wp2_with fail
      refine Calls.mono (HW2.out _) ?_
      rintro e w1' ⟨rfl, hw1'⟩
      replace hw1' := hw1'.symm
      subst hw1'
      clear HW2
      go_wp2_with fail
      go_loopw [17] (fun s17 wr => ∃ j : Nat, j ≤ n ∧ s17 = .int .i64 (j : Int) ∧ CR W L xb nb (winOf wa wb) n t j wr) (fun s17 _ => n - (intOf s17).toNat)
      case atStart => exact ⟨0, by omega, rfl, HC9.out⟩
      case round =>
        clear HC9
        obtain ⟨j, hj, rfl, hC⟩ := hrel
        have HC : Hid (CR W L xb nb (winOf wa wb) n t j wr) := hC
        by_cases hjn : j < n
        · obtain ⟨S, col, g1, g2, g3, g4, g5, g6⟩ := hC.ex
          have HG : Hid (GO L xb S col wr col wr) := GO.refl g1
          have HIV : Hid (LInv S (winOf wa wb) n t) := g2
          have HRR : Hid (RR (S.e 0).x (j : Int) ∧ RR (S.e 1).x (j : Int)) := ⟨g3, g4⟩
          have HNB : Hid (8 ≤ col nb) := g6
          have c0 : wr.cell? ⟨xb, 0, none⟩ = some (.pointer (some ⟨(S.e 0).lb, 0, none⟩)) := g1.b.cell 0
          clear g1 g2 g3 g4 g5 g6 hC
          go_wp2_with fail
          refine Calls.mono (tick_any wr (HG.out.ln.em 0 (by omega)).lm (by have := (HIV.out.ei 0 (by omega)).ag; have := HIV.out.hn; omega)) ?_
          rintro e w3 ⟨rfl, hM3, hs3⟩
          obtain ⟨col3, hg3⟩ := HG.out.endX (i := 0) (by omega) hM3 hs3
          obtain ⟨S3, hS3⟩ : ∃ S3, S3 = S.endX 0 (S.e 0).uv (S.e 0).x.tick := ⟨_, rfl⟩
          rw [← hS3] at hg3
          have HG3 : Hid (GO L xb S3 col wr col3 w3) := hg3
          have HI3 : Hid (LInv S3 (winOf wa wb) n t) := show LInv _ _ _ _ from by rw [hS3]; exact HIV.out.tick (by omega) _
          have HR3 : Hid (RR (S3.e 0).x ((j : Int) + 1) ∧ (S3.e 1) = S.e 1) := show _ ∧ _ from by
            rw [hS3, Ln.endX_same]
            exact ⟨HRR.out.1.tick, Ln.endX_ne _ _ _ (by decide)⟩
          have c1 : w3.cell? ⟨xb, 1, none⟩ = some (.pointer (some ⟨(S3.e 1).lb, 0, none⟩)) := hg3.ln.b.cell 1
          clear hM3 hs3 hg3 hS3 c0
          go_wp2_with fail
          refine Calls.mono (tick_any w3 (HG3.out.ln.em 1 (by omega)).lm (by have := (HI3.out.ei 1 (by omega)).ag; have := HI3.out.hn; omega)) ?_
          rintro e w4 ⟨rfl, hM4, hs4⟩
          obtain ⟨col4, hg4⟩ := HG3.out.endX (i := 1) (by omega) hM4 hs4
          obtain ⟨S4, hS4⟩ : ∃ S4, S4 = S3.endX 1 (S3.e 1).uv (S3.e 1).x.tick := ⟨_, rfl⟩
          rw [← hS4] at hg4
          have HG4 : Hid (GO L xb S4 col wr col4 w4) := hg4
          have HI4 : Hid (LInv S4 (winOf wa wb) n t) := show LInv _ _ _ _ from by rw [hS4]; exact HI3.out.tick (by omega) _
          have HR4 : Hid (RR (S4.e 0).x ((j : Int) + 1) ∧ RR (S4.e 1).x ((j : Int) + 1)) := show _ ∧ _ from by
            rw [hS4, Ln.endX_same, Ln.endX_ne _ _ _ (by decide)]
            refine ⟨HR3.out.1, ?_⟩
            show RR (S3.e 1).x.tick _
            rw [HR3.out.2]
            exact HRR.out.2.tick
          clear hM4 hs4 hg4 hS4 c1
          go_wp2_with fail
          refine Calls.mono (quiet_any ((j : Int) + 1) w4 HG4.out.ln HI4.out ht4 HR4.out.1 HR4.out.2) ?_
          rintro e w5 ⟨rfl, S5, col5, hg5, hi5, hq0, hq1⟩
          have HC5 : Hid (CR W L xb nb (winOf wa wb) n t (j + 1) w5) := HC.out.go (S := S) HNB.out (HG4.out.trans hg5) hi5 hq0.rr hq1.rr (fun _ => ⟨hq0, hq1⟩)
          clear hg5 hi5 hq0 hq1 HG HG3 HG4 HIV HI3 HI4 HRR HR3 HR4 HNB HC
          go_wp2_with fail
          go_roundw
          case rel => exact ⟨j + 1, by omega, by go_num, HC5.out⟩
          case measure => simp [intOf]; omega
        · have hjn2 : j = n := by omega
          rw [hjn2] at HC ⊢
          obtain ⟨S, hRS⟩ := HC.out.rest
          have HRS : Hid (RS W L xb nb (winOf wa wb) n t S wr) := hRS
          clear hRS HC hjn hj hC hjn2
          go_wp2_with fail
          go_loopw [18] (fun s18 wr => ∃ j : Nat, j ≤ 2 ∧ s18 = .int .i64 (j : Int) ∧ RS W L xb nb (winOf wa wb) n t S wr) (fun s18 _ => 2 - (intOf s18).toNat)
          case atStart => exact ⟨0, by omega, rfl, HRS.out⟩
          case round =>
            clear HRS
            obtain ⟨j, hj, rfl, hR⟩ := hrel
            have HR : Hid (RS W L xb nb (winOf wa wb) n t S wr) := hR
            clear hR
            rcases (by omega : j = 0 ∨ j = 1 ∨ j = 2) with rfl | rfl | rfl
            · have hz := HR.out.z 0 (by omega)
              obtain ⟨col, g1, g4⟩ := HR.out.ex
              obtain ⟨io, ic, hiv, un0⟩ := own_slice (g1.em 0 (by omega)).ir
              clear un0
              obtain ⟨il, hil⟩ : ∃ il, il = (S.e 0).inn.length := ⟨_, rfl⟩
              rw [← hil] at hiv
              have hil4 : il ≤ 400 := by have := (HR.out.i.ei 0 (by omega)).ts; omega
              obtain ⟨lj, hlj⟩ : ∃ lj, lj = (S.e 0).lb := ⟨_, rfl⟩
              have hxl := g1.b.lt
              have hnl := HR.out.b.lt
              have VO : ∀ wz, Below wr.heap.size wr wz → wz.cell? ⟨xb, 4, none⟩ = some (.int .i64 (il : Int)) := fun wz hb => (hb.cell (p := ⟨xb, 4, none⟩) hxl).trans (by rw [hil, ← hz.2.2.2.2]; exact g1.b.cell 4)
              have VI : ∀ wz, Below wr.heap.size wr wz → wz.cell? ⟨xb, 2, none⟩ = some (.slice io il ic) := fun wz hb => (hb.cell (p := ⟨xb, 2, none⟩) hxl).trans (by rw [← hiv]; exact g1.b.cell 2)
              have VL : ∀ wz, Below wr.heap.size wr wz → wz.cell? ⟨xb, 0, none⟩ = some (.pointer (some ⟨lj, 0, none⟩)) := fun wz hb => (hb.cell (p := ⟨xb, 0, none⟩) hxl).trans (by rw [hlj]; exact g1.b.cell 0)
              have VW : ∀ wz, Below wr.heap.size wr wz → wz.cell? ⟨nb, 0, none⟩ = some (.int .i64 (winOf wa wb 0 : Int)) := fun wz hb => (hb.cell (p := ⟨nb, 0, none⟩) hnl).trans (HR.out.b.cell 0)
              have hnm := HR.out.i.nums (i := 0) (by omega)
              have hun := under_any wr.drew ((g1.em 0 (by omega)).lm.more (Below.refl _ _).drew) (by have := hnm.1; omega) (by have := hnm.2.1; omega) (by have := hnm.2.2.1; omega) (fun d hd => by rw [hz.2.1] at hd; cases hd)
              rw [← hlj] at hun
              have HUN : Hid (Calls Try.prog 14 #[.pointer (some ⟨lj, 0, none⟩)] wr.drew _) := hun
              have HU0 : Hid (∀ (v5 : Value) (l5 : List Sgm) (w5 : World), l5.map Sgm.pr = tell (S.e 0).x.me (S.e 0).x.peer ((S.e 0).x.next - 1) ((S.e 0).x.acked + 1) ((S.e 0).x.under.map Dv.s) → SL wr.drew.heap.size v5 l5 w5 → ∃ vo5 vc5, v5 = .slice vo5 0 vc5) := fun v5 l5 w5 hl hS => by
                obtain ⟨vo5, vc5, hv5, _⟩ := own_slice hS.r
                have h1 := congrArg List.length hl
                rw [List.length_map, tell_len, List.length_map, hz.2.1] at h1
                have h2 : l5.length = 0 := h1
                rw [h2] at hv5
                exact ⟨vo5, vc5, hv5⟩
              have HRM : Hid (∀ w5, Below wr.heap.size wr w5 → Calls Try.prog 12 #[.pointer (some ⟨lj, 0, none⟩)] w5 fun e w' => e = .returned (.int .i64 (winOf wa wb 0 : Int)) ∧ ∃ q, w' = w5.drewN q) := fun w5 hb => by
                rw [hlj]
                refine (room_any w5 ((g1.em 0 (by omega)).lm.more hb) hnm.2.2.2.2.2.1 (by have := hnm.2.2.2.1; omega) (by have := hnm.2.2.1; omega)).mono ?_
                rintro e w' ⟨rfl, hq⟩
                refine ⟨?_, hq⟩
                rw [hz.1, hz.2.1, (HR.out.i.ei 0 (by omega)).wi]
                simp
              clear hz g1 g4 hiv hil hlj hxl hnl hnm hun
              go_upto_region 25 with fail
              rename_i K hK
              try rw [show ∀ a : Act, a.put none undef = a from fun _ => rfl]
              refine wp_region_mix (fun wz => Below wr.heap.size wr wz) (fun i => i == 21 || i == 32 || i == 99) 99 (by kernel_rfl) rfl (by kernel_rfl) (by kernel_rfl) (by kernel_rfl) ?_
              refine withFrP (N := 149) rfl ?_
              intro f0 F0 hff
              have e12 : f0 12 = Value.pointer (some ⟨xb, 0, none⟩) := hff 12
              have e18 : f0 18 = Value.int .i64 0 := hff 18
              have e13 : f0 13 = Value.pointer (some ⟨nb, 0, none⟩) := hff 13
              clear hff
              have HCC : (fun wz => Below wr.heap.size wr wz) (({ wr with drawn := wr.drawn + 1 } : World)) := (Below.refl _ _).drew
              refine lyp F0 rfl HCC rfl (by omega) (wanted_none rfl) (v := Value.pointer (some ⟨xb, 0, none⟩)) (fun wr hwr => by simp only [execOp, (F0.eval 12 (by omega)).trans (show _ = Value.pointer (some ⟨xb, 0, none⟩) from by simp [upd, e12, e18, e13])]; first | rfl | simp [go_sem]) fun Fp1 => ?_
              refine lyp Fp1 rfl HCC rfl (by omega) (wanted_none rfl) (v := Value.int .i64 0) (fun wr hwr => by simp only [execOp, (Fp1.eval 18 (by omega)).trans (show _ = Value.int .i64 0 from by simp [upd, e12, e18, e13])]; first | rfl | simp [go_sem]) fun Fp2 => ?_
              refine lyp Fp2 rfl HCC rfl (by omega) (wanted_none rfl) (v := Value.pointer (some ⟨xb, 0, none⟩)) (fun wr hwr => by simp only [execOp, (Fp2.eval 93 (by omega)).trans (show _ = Value.pointer (some ⟨xb, 0, none⟩) from by simp [upd, e12, e18, e13])]; simp [go_sem]) fun Fp3 => ?_
              refine lyp Fp3 rfl HCC rfl (by omega) (wanted_none rfl) (v := Value.pointer (some ⟨xb, 4, none⟩)) (fun wr hwr => by simp only [execOp, (Fp3.eval 95 (by omega)).trans (show _ = Value.pointer (some ⟨xb, 0, none⟩) from by simp [upd, e12, e18, e13])]; simp [go_sem]) fun Fp4 => ?_
              refine lyp Fp4 rfl HCC rfl (by omega) (wanted_none rfl) (v := Value.pointer (some ⟨xb, 4, none⟩)) (fun wr hwr => by simp only [execOp, (Fp4.eval 96 (by omega)).trans (show _ = Value.pointer (some ⟨xb, 4, none⟩) from by simp [upd, e12, e18, e13]), (Fp4.eval 94 (by omega)).trans (show _ = Value.int .i64 0 from by simp [upd, e12, e18, e13])]; simp [go_sem, Act.eval]) fun Fp5 => ?_
              refine lyp Fp5 rfl HCC rfl (by omega) (wanted_none rfl) (v := Value.int .i64 (il : Int)) (fun wr hwr => by simp only [execOp, (Fp5.eval 97 (by omega)).trans (show _ = Value.pointer (some ⟨xb, 4, none⟩) from by simp [upd, e12, e18, e13])]; simp [go_sem, VO wr hwr]) fun Fp6 => ?_
              refine lyp Fp6 rfl HCC rfl (by omega) (wanted_none rfl) (v := Value.pointer (some ⟨xb, 0, none⟩)) (fun wr hwr => by simp only [execOp, (Fp6.eval 12 (by omega)).trans (show _ = Value.pointer (some ⟨xb, 0, none⟩) from by simp [upd, e12, e18, e13])]; first | rfl | simp [go_sem]) fun Fp7 => ?_
              refine lyp Fp7 rfl HCC rfl (by omega) (wanted_none rfl) (v := Value.int .i64 0) (fun wr hwr => by simp only [execOp, (Fp7.eval 18 (by omega)).trans (show _ = Value.int .i64 0 from by simp [upd, e12, e18, e13])]; first | rfl | simp [go_sem]) fun Fp8 => ?_
              refine lyp Fp8 rfl HCC rfl (by omega) (wanted_none rfl) (v := Value.pointer (some ⟨xb, 0, none⟩)) (fun wr hwr => by simp only [execOp, (Fp8.eval 99 (by omega)).trans (show _ = Value.pointer (some ⟨xb, 0, none⟩) from by simp [upd, e12, e18, e13])]; simp [go_sem]) fun Fp9 => ?_
              refine lyp Fp9 rfl HCC rfl (by omega) (wanted_none rfl) (v := Value.pointer (some ⟨xb, 2, none⟩)) (fun wr hwr => by simp only [execOp, (Fp9.eval 101 (by omega)).trans (show _ = Value.pointer (some ⟨xb, 0, none⟩) from by simp [upd, e12, e18, e13])]; simp [go_sem]) fun Fp10 => ?_
              refine lyp Fp10 rfl HCC rfl (by omega) (wanted_none rfl) (v := Value.pointer (some ⟨xb, 2, none⟩)) (fun wr hwr => by simp only [execOp, (Fp10.eval 102 (by omega)).trans (show _ = Value.pointer (some ⟨xb, 2, none⟩) from by simp [upd, e12, e18, e13]), (Fp10.eval 100 (by omega)).trans (show _ = Value.int .i64 0 from by simp [upd, e12, e18, e13])]; simp [go_sem, Act.eval]) fun Fp11 => ?_
              refine lyp Fp11 rfl HCC rfl (by omega) (wanted_none rfl) (v := Value.slice io il ic) (fun wr hwr => by simp only [execOp, (Fp11.eval 103 (by omega)).trans (show _ = Value.pointer (some ⟨xb, 2, none⟩) from by simp [upd, e12, e18, e13])]; simp [go_sem, VI wr hwr]) fun Fp12 => ?_
              refine lyp Fp12 rfl HCC rfl (by omega) (wanted_none rfl) (v := Value.int .i64 (il : Nat)) (fun wr hwr => by simp only [execOp, resolve, invoke, builtin, List.map_toArray, List.map_cons, List.map_nil, (Fp12.eval 104 (by omega)).trans (show _ = Value.slice io il ic from by simp [upd, e12, e18, e13])]; simp [go_sem, Builtin.len_, Builtin.lenOf]) fun Fp13 => ?_
              refine lyp Fp13 rfl HCC rfl (by omega) (wanted_none rfl) (v := Value.bool false) (fun wr hwr => by simp only [execOp, (Fp13.eval 98 (by omega)).trans (show _ = Value.int .i64 (il : Int) from by simp [upd, e12, e18, e13]), (Fp13.eval 105 (by omega)).trans (show _ = Value.int .i64 (il : Nat) from by simp [upd, e12, e18, e13])]; simp [go_sem, Act.eval]) fun Fp14 => ?_
              refine lyp Fp14 rfl HCC rfl (by omega) (wanted_none rfl) (v := Value.bool false) (fun wr hwr => by simp only [execOp, (Fp14.eval 106 (by omega)).trans (show _ = Value.bool false from by simp [upd, e12, e18, e13])]; first | rfl | simp [go_sem]) fun Fp15 => ?_
              refine lyp Fp15 rfl HCC rfl (by omega) (want_yes Fp15 rfl (e := 107) rfl (by omega) (show _ = Value.bool false from by simp [upd, e12, e18, e13])) (v := Value.pointer (some ⟨xb, 0, none⟩)) (fun wr hwr => by simp only [execOp, (Fp15.eval 12 (by omega)).trans (show _ = Value.pointer (some ⟨xb, 0, none⟩) from by simp [upd, e12, e18, e13])]; first | rfl | simp [go_sem]) fun Fp16 => ?_
              refine lyp Fp16 rfl HCC rfl (by omega) (want_yes Fp16 rfl (e := 107) rfl (by omega) (show _ = Value.bool false from by simp [upd, e12, e18, e13])) (v := Value.int .i64 0) (fun wr hwr => by simp only [execOp, (Fp16.eval 18 (by omega)).trans (show _ = Value.int .i64 0 from by simp [upd, e12, e18, e13])]; first | rfl | simp [go_sem]) fun Fp17 => ?_
              refine lyp Fp17 rfl HCC rfl (by omega) (want_yes Fp17 rfl (e := 107) rfl (by omega) (show _ = Value.bool false from by simp [upd, e12, e18, e13])) (v := Value.pointer (some ⟨xb, 0, none⟩)) (fun wr hwr => by simp only [execOp, (Fp17.eval 108 (by omega)).trans (show _ = Value.pointer (some ⟨xb, 0, none⟩) from by simp [upd, e12, e18, e13])]; simp [go_sem]) fun Fp18 => ?_
              refine lyp Fp18 rfl HCC rfl (by omega) (want_yes Fp18 rfl (e := 107) rfl (by omega) (show _ = Value.bool false from by simp [upd, e12, e18, e13])) (v := Value.pointer (some ⟨xb, 0, none⟩)) (fun wr hwr => by simp only [execOp, (Fp18.eval 110 (by omega)).trans (show _ = Value.pointer (some ⟨xb, 0, none⟩) from by simp [upd, e12, e18, e13])]; simp [go_sem]) fun Fp19 => ?_
              refine lyp Fp19 rfl HCC rfl (by omega) (want_yes Fp19 rfl (e := 107) rfl (by omega) (show _ = Value.bool false from by simp [upd, e12, e18, e13])) (v := Value.pointer (some ⟨xb, 0, none⟩)) (fun wr hwr => by simp only [execOp, (Fp19.eval 111 (by omega)).trans (show _ = Value.pointer (some ⟨xb, 0, none⟩) from by simp [upd, e12, e18, e13]), (Fp19.eval 109 (by omega)).trans (show _ = Value.int .i64 0 from by simp [upd, e12, e18, e13])]; simp [go_sem, Act.eval]) fun Fp20 => ?_
              refine lyp Fp20 rfl HCC rfl (by omega) (want_yes Fp20 rfl (e := 107) rfl (by omega) (show _ = Value.bool false from by simp [upd, e12, e18, e13])) (v := Value.pointer (some ⟨lj, 0, none⟩)) (fun wr hwr => by simp only [execOp, (Fp20.eval 112 (by omega)).trans (show _ = Value.pointer (some ⟨xb, 0, none⟩) from by simp [upd, e12, e18, e13])]; simp [go_sem, VL wr hwr]) fun Fp21 => ?_
              refine lcp Fp21 rfl HCC rfl (by omega) (want_yes Fp21 rfl (e := 107) rfl (by omega) (show _ = Value.bool false from by simp [upd, e12, e18, e13])) (g := 14) (args := #[Value.pointer (some ⟨lj, 0, none⟩)]) (by simp only [execOp, resolve, invoke, List.map_toArray, List.map_cons, List.map_nil, (Fp21.eval 113 (by omega)).trans (show _ = Value.pointer (some ⟨lj, 0, none⟩) from by simp [upd, e12, e18, e13])]; simp [go_sem, Act.eval]) HUN.out ?_
              rintro e w5 ⟨v5, l5, rfl, hl5, hSL5, hb5⟩
              obtain ⟨vo5, vc5, hv5⟩ : ∃ vo5 vc5, v5 = .slice vo5 0 vc5 := HU0.out v5 l5 w5 hl5 hSL5
              subst hv5
              refine ⟨_, rfl, fun Fp22 => ?_⟩
              have HC5 : (fun wz => Below wr.heap.size wr wz) w5 := Below.undrew hb5
              refine lyp Fp22 rfl HC5 rfl (by omega) (want_yes Fp22 rfl (e := 107) rfl (by omega) (show _ = Value.bool false from by simp [upd, e12, e18, e13])) (v := Value.int .i64 (0 : Nat)) (fun wr hwr => by simp only [execOp, resolve, invoke, builtin, List.map_toArray, List.map_cons, List.map_nil, (Fp22.eval 114 (by omega)).trans (show _ = Value.slice vo5 0 vc5 from by simp [upd, e12, e18, e13])]; simp [go_sem, Builtin.len_, Builtin.lenOf]) fun Fp23 => ?_
              refine lyp Fp23 rfl HC5 rfl (by omega) (want_yes Fp23 rfl (e := 107) rfl (by omega) (show _ = Value.bool false from by simp [upd, e12, e18, e13])) (v := Value.bool false) (fun wr hwr => by simp only [execOp, (Fp23.eval 115 (by omega)).trans (show _ = Value.int .i64 (0 : Nat) from by simp [upd, e12, e18, e13])]; simp [go_sem, Act.eval]) fun Fp24 => ?_
              refine lyp Fp24 rfl HC5 rfl (by omega) (wanted_none rfl) (v := Value.bool false) (fun wr hwr => by simp only [execOp, (Fp24.eval 107 (by omega)).trans (show _ = Value.bool false from by simp [upd, e12, e18, e13]), (Fp24.eval 116 (by omega)).trans (show _ = Value.bool false from by simp [upd, e12, e18, e13])]; simp [go_sem, Act.eval]) fun Fp25 => ?_
              refine lyp Fp25 rfl HC5 rfl (by omega) (wanted_none rfl) (v := Value.bool false) (fun wr hwr => by simp only [execOp, (Fp25.eval 117 (by omega)).trans (show _ = Value.bool false from by simp [upd, e12, e18, e13])]; first | rfl | simp [go_sem]) fun Fp26 => ?_
              refine lyp Fp26 rfl HC5 rfl (by omega) (want_yes Fp26 rfl (e := 118) rfl (by omega) (show _ = Value.bool false from by simp [upd, e12, e18, e13])) (v := Value.pointer (some ⟨xb, 0, none⟩)) (fun wr hwr => by simp only [execOp, (Fp26.eval 12 (by omega)).trans (show _ = Value.pointer (some ⟨xb, 0, none⟩) from by simp [upd, e12, e18, e13])]; first | rfl | simp [go_sem]) fun Fp27 => ?_
              refine lyp Fp27 rfl HC5 rfl (by omega) (want_yes Fp27 rfl (e := 118) rfl (by omega) (show _ = Value.bool false from by simp [upd, e12, e18, e13])) (v := Value.int .i64 0) (fun wr hwr => by simp only [execOp, (Fp27.eval 18 (by omega)).trans (show _ = Value.int .i64 0 from by simp [upd, e12, e18, e13])]; first | rfl | simp [go_sem]) fun Fp28 => ?_
              refine lyp Fp28 rfl HC5 rfl (by omega) (want_yes Fp28 rfl (e := 118) rfl (by omega) (show _ = Value.bool false from by simp [upd, e12, e18, e13])) (v := Value.pointer (some ⟨xb, 0, none⟩)) (fun wr hwr => by simp only [execOp, (Fp28.eval 119 (by omega)).trans (show _ = Value.pointer (some ⟨xb, 0, none⟩) from by simp [upd, e12, e18, e13])]; simp [go_sem]) fun Fp29 => ?_
              refine lyp Fp29 rfl HC5 rfl (by omega) (want_yes Fp29 rfl (e := 118) rfl (by omega) (show _ = Value.bool false from by simp [upd, e12, e18, e13])) (v := Value.pointer (some ⟨xb, 0, none⟩)) (fun wr hwr => by simp only [execOp, (Fp29.eval 121 (by omega)).trans (show _ = Value.pointer (some ⟨xb, 0, none⟩) from by simp [upd, e12, e18, e13])]; simp [go_sem]) fun Fp30 => ?_
              refine lyp Fp30 rfl HC5 rfl (by omega) (want_yes Fp30 rfl (e := 118) rfl (by omega) (show _ = Value.bool false from by simp [upd, e12, e18, e13])) (v := Value.pointer (some ⟨xb, 0, none⟩)) (fun wr hwr => by simp only [execOp, (Fp30.eval 122 (by omega)).trans (show _ = Value.pointer (some ⟨xb, 0, none⟩) from by simp [upd, e12, e18, e13]), (Fp30.eval 120 (by omega)).trans (show _ = Value.int .i64 0 from by simp [upd, e12, e18, e13])]; simp [go_sem, Act.eval]) fun Fp31 => ?_
              refine lyp Fp31 rfl HC5 rfl (by omega) (want_yes Fp31 rfl (e := 118) rfl (by omega) (show _ = Value.bool false from by simp [upd, e12, e18, e13])) (v := Value.pointer (some ⟨lj, 0, none⟩)) (fun wr hwr => by simp only [execOp, (Fp31.eval 123 (by omega)).trans (show _ = Value.pointer (some ⟨xb, 0, none⟩) from by simp [upd, e12, e18, e13])]; simp [go_sem, VL wr hwr]) fun Fp32 => ?_
              refine lcp Fp32 rfl HC5 rfl (by omega) (want_yes Fp32 rfl (e := 118) rfl (by omega) (show _ = Value.bool false from by simp [upd, e12, e18, e13])) (g := 12) (args := #[Value.pointer (some ⟨lj, 0, none⟩)]) (by simp only [execOp, resolve, invoke, List.map_toArray, List.map_cons, List.map_nil, (Fp32.eval 124 (by omega)).trans (show _ = Value.pointer (some ⟨lj, 0, none⟩) from by simp [upd, e12, e18, e13])]; simp [go_sem, Act.eval]) (HRM.out w5 HC5) ?_
              rintro e w6 ⟨rfl, q6, rfl⟩
              refine ⟨_, rfl, fun Fp33 => ?_⟩
              have HC6 : (fun wz => Below wr.heap.size wr wz) (w5.drewN q6) := below_drewN HC5 q6
              refine lyp Fp33 rfl HC6 rfl (by omega) (want_yes Fp33 rfl (e := 118) rfl (by omega) (show _ = Value.bool false from by simp [upd, e12, e18, e13])) (v := Value.int .i64 0) (fun wr hwr => by simp only [execOp, (Fp33.eval 18 (by omega)).trans (show _ = Value.int .i64 0 from by simp [upd, e12, e18, e13])]; first | rfl | simp [go_sem]) fun Fp34 => ?_
              refine lyp Fp34 rfl HC6 rfl (by omega) (want_yes Fp34 rfl (e := 118) rfl (by omega) (show _ = Value.bool false from by simp [upd, e12, e18, e13])) (v := Value.pointer (some ⟨nb, 0, none⟩)) (fun wr hwr => by simp only [execOp, (Fp34.eval 13 (by omega)).trans (show _ = Value.pointer (some ⟨nb, 0, none⟩) from by simp [upd, e12, e18, e13]), (Fp34.eval 126 (by omega)).trans (show _ = Value.int .i64 0 from by simp [upd, e12, e18, e13])]; simp [go_sem, Act.eval]) fun Fp35 => ?_
              refine lyp Fp35 rfl HC6 rfl (by omega) (want_yes Fp35 rfl (e := 118) rfl (by omega) (show _ = Value.bool false from by simp [upd, e12, e18, e13])) (v := Value.int .i64 (winOf wa wb 0 : Int)) (fun wr hwr => by simp only [execOp, (Fp35.eval 127 (by omega)).trans (show _ = Value.pointer (some ⟨nb, 0, none⟩) from by simp [upd, e12, e18, e13])]; simp [go_sem, VW wr hwr]) fun Fp36 => ?_
              refine lyp Fp36 rfl HC6 rfl (by omega) (want_yes Fp36 rfl (e := 118) rfl (by omega) (show _ = Value.bool false from by simp [upd, e12, e18, e13])) (v := Value.bool false) (fun wr hwr => by simp only [execOp, (Fp36.eval 125 (by omega)).trans (show _ = Value.int .i64 (winOf wa wb 0 : Int) from by simp [upd, e12, e18, e13]), (Fp36.eval 128 (by omega)).trans (show _ = Value.int .i64 (winOf wa wb 0 : Int) from by simp [upd, e12, e18, e13])]; simp [go_sem, Act.eval]) fun Fp37 => ?_
              refine lyp Fp37 rfl HC6 rfl (by omega) (wanted_none rfl) (v := Value.bool false) (fun wr hwr => by simp only [execOp, (Fp37.eval 118 (by omega)).trans (show _ = Value.bool false from by simp [upd, e12, e18, e13]), (Fp37.eval 129 (by omega)).trans (show _ = Value.bool false from by simp [upd, e12, e18, e13])]; simp [go_sem, Act.eval]) fun Fp38 => ?_
              refine ⟨fun _ => HC6, ?_⟩
              refine hK _ _ ?_
              clear F0 Fp1 Fp2 Fp3 Fp4 Fp5 Fp6 Fp7 Fp8 Fp9 Fp10 Fp11 Fp12 Fp13 Fp14 Fp15 Fp16 Fp17 Fp18 Fp19 Fp20 Fp21 Fp22 Fp23 Fp24 Fp25 Fp26 Fp27 Fp28 Fp29 Fp30 Fp31 Fp32 Fp33 Fp34 Fp35 Fp36 Fp37 Fp38 e12 e18 e13 HCC HC6
              simp only [Act.put, List.setIfInBounds_toArray, List.set_cons_succ, List.set_cons_zero]
              have HR6 : Hid (RS W L xb nb (winOf wa wb) n t S (w5.drewN q6)) := HR.out.more (below_drewN (Below.undrew hb5) q6)
              clear VO VI VL VW HUN HU0 HRM hl5 hSL5 hb5
              go_wp2_with fail
              go_roundw
              case rel => exact ⟨0 + 1, by omega, by go_num, HR6.out⟩
              case measure => simp [intOf]
            · have hz := HR.out.z 1 (by omega)
              obtain ⟨col, g1, g4⟩ := HR.out.ex
              obtain ⟨io, ic, hiv, un0⟩ := own_slice (g1.em 1 (by omega)).ir
              clear un0
              obtain ⟨il, hil⟩ : ∃ il, il = (S.e 1).inn.length := ⟨_, rfl⟩
              rw [← hil] at hiv
              have hil4 : il ≤ 400 := by have := (HR.out.i.ei 1 (by omega)).ts; omega
              obtain ⟨lj, hlj⟩ : ∃ lj, lj = (S.e 1).lb := ⟨_, rfl⟩
              have hxl := g1.b.lt
              have hnl := HR.out.b.lt
              have VO : ∀ wz, Below wr.heap.size wr wz → wz.cell? ⟨xb, 5, none⟩ = some (.int .i64 (il : Int)) := fun wz hb => (hb.cell (p := ⟨xb, 5, none⟩) hxl).trans (by rw [hil, ← hz.2.2.2.2]; exact g1.b.cell 5)
              have VI : ∀ wz, Below wr.heap.size wr wz → wz.cell? ⟨xb, 3, none⟩ = some (.slice io il ic) := fun wz hb => (hb.cell (p := ⟨xb, 3, none⟩) hxl).trans (by rw [← hiv]; exact g1.b.cell 3)
              have VL : ∀ wz, Below wr.heap.size wr wz → wz.cell? ⟨xb, 1, none⟩ = some (.pointer (some ⟨lj, 0, none⟩)) := fun wz hb => (hb.cell (p := ⟨xb, 1, none⟩) hxl).trans (by rw [hlj]; exact g1.b.cell 1)
              have VW : ∀ wz, Below wr.heap.size wr wz → wz.cell? ⟨nb, 1, none⟩ = some (.int .i64 (winOf wa wb 1 : Int)) := fun wz hb => (hb.cell (p := ⟨nb, 1, none⟩) hnl).trans (HR.out.b.cell 1)
              have hnm := HR.out.i.nums (i := 1) (by omega)
              have hun := under_any wr.drew ((g1.em 1 (by omega)).lm.more (Below.refl _ _).drew) (by have := hnm.1; omega) (by have := hnm.2.1; omega) (by have := hnm.2.2.1; omega) (fun d hd => by rw [hz.2.1] at hd; cases hd)
              rw [← hlj] at hun
              have HUN : Hid (Calls Try.prog 14 #[.pointer (some ⟨lj, 0, none⟩)] wr.drew _) := hun
              have HU0 : Hid (∀ (v5 : Value) (l5 : List Sgm) (w5 : World), l5.map Sgm.pr = tell (S.e 1).x.me (S.e 1).x.peer ((S.e 1).x.next - 1) ((S.e 1).x.acked + 1) ((S.e 1).x.under.map Dv.s) → SL wr.drew.heap.size v5 l5 w5 → ∃ vo5 vc5, v5 = .slice vo5 0 vc5) := fun v5 l5 w5 hl hS => by
                obtain ⟨vo5, vc5, hv5, _⟩ := own_slice hS.r
                have h1 := congrArg List.length hl
                rw [List.length_map, tell_len, List.length_map, hz.2.1] at h1
                have h2 : l5.length = 0 := h1
                rw [h2] at hv5
                exact ⟨vo5, vc5, hv5⟩
              have HRM : Hid (∀ w5, Below wr.heap.size wr w5 → Calls Try.prog 12 #[.pointer (some ⟨lj, 0, none⟩)] w5 fun e w' => e = .returned (.int .i64 (winOf wa wb 1 : Int)) ∧ ∃ q, w' = w5.drewN q) := fun w5 hb => by
                rw [hlj]
                refine (room_any w5 ((g1.em 1 (by omega)).lm.more hb) hnm.2.2.2.2.2.1 (by have := hnm.2.2.2.1; omega) (by have := hnm.2.2.1; omega)).mono ?_
                rintro e w' ⟨rfl, hq⟩
                refine ⟨?_, hq⟩
                rw [hz.1, hz.2.1, (HR.out.i.ei 1 (by omega)).wi]
                simp
              clear hz g1 g4 hiv hil hlj hxl hnl hnm hun
              go_upto_region 25 with fail
              rename_i K hK
              try rw [show ∀ a : Act, a.put none undef = a from fun _ => rfl]
              refine wp_region_mix (fun wz => Below wr.heap.size wr wz) (fun i => i == 21 || i == 32 || i == 99) 99 (by kernel_rfl) rfl (by kernel_rfl) (by kernel_rfl) (by kernel_rfl) ?_
              refine withFrP (N := 149) rfl ?_
              intro f0 F0 hff
              have e12 : f0 12 = Value.pointer (some ⟨xb, 0, none⟩) := hff 12
              have e18 : f0 18 = Value.int .i64 1 := hff 18
              have e13 : f0 13 = Value.pointer (some ⟨nb, 0, none⟩) := hff 13
              clear hff
              have HCC : (fun wz => Below wr.heap.size wr wz) (({ wr with drawn := wr.drawn + 1 } : World)) := (Below.refl _ _).drew
              refine lyp F0 rfl HCC rfl (by omega) (wanted_none rfl) (v := Value.pointer (some ⟨xb, 0, none⟩)) (fun wr hwr => by simp only [execOp, (F0.eval 12 (by omega)).trans (show _ = Value.pointer (some ⟨xb, 0, none⟩) from by simp [upd, e12, e18, e13])]; first | rfl | simp [go_sem]) fun Fp1 => ?_
              refine lyp Fp1 rfl HCC rfl (by omega) (wanted_none rfl) (v := Value.int .i64 1) (fun wr hwr => by simp only [execOp, (Fp1.eval 18 (by omega)).trans (show _ = Value.int .i64 1 from by simp [upd, e12, e18, e13])]; first | rfl | simp [go_sem]) fun Fp2 => ?_
              refine lyp Fp2 rfl HCC rfl (by omega) (wanted_none rfl) (v := Value.pointer (some ⟨xb, 0, none⟩)) (fun wr hwr => by simp only [execOp, (Fp2.eval 93 (by omega)).trans (show _ = Value.pointer (some ⟨xb, 0, none⟩) from by simp [upd, e12, e18, e13])]; simp [go_sem]) fun Fp3 => ?_
              refine lyp Fp3 rfl HCC rfl (by omega) (wanted_none rfl) (v := Value.pointer (some ⟨xb, 4, none⟩)) (fun wr hwr => by simp only [execOp, (Fp3.eval 95 (by omega)).trans (show _ = Value.pointer (some ⟨xb, 0, none⟩) from by simp [upd, e12, e18, e13])]; simp [go_sem]) fun Fp4 => ?_
              refine lyp Fp4 rfl HCC rfl (by omega) (wanted_none rfl) (v := Value.pointer (some ⟨xb, 5, none⟩)) (fun wr hwr => by simp only [execOp, (Fp4.eval 96 (by omega)).trans (show _ = Value.pointer (some ⟨xb, 4, none⟩) from by simp [upd, e12, e18, e13]), (Fp4.eval 94 (by omega)).trans (show _ = Value.int .i64 1 from by simp [upd, e12, e18, e13])]; simp [go_sem, Act.eval]) fun Fp5 => ?_
              refine lyp Fp5 rfl HCC rfl (by omega) (wanted_none rfl) (v := Value.int .i64 (il : Int)) (fun wr hwr => by simp only [execOp, (Fp5.eval 97 (by omega)).trans (show _ = Value.pointer (some ⟨xb, 5, none⟩) from by simp [upd, e12, e18, e13])]; simp [go_sem, VO wr hwr]) fun Fp6 => ?_
              refine lyp Fp6 rfl HCC rfl (by omega) (wanted_none rfl) (v := Value.pointer (some ⟨xb, 0, none⟩)) (fun wr hwr => by simp only [execOp, (Fp6.eval 12 (by omega)).trans (show _ = Value.pointer (some ⟨xb, 0, none⟩) from by simp [upd, e12, e18, e13])]; first | rfl | simp [go_sem]) fun Fp7 => ?_
              refine lyp Fp7 rfl HCC rfl (by omega) (wanted_none rfl) (v := Value.int .i64 1) (fun wr hwr => by simp only [execOp, (Fp7.eval 18 (by omega)).trans (show _ = Value.int .i64 1 from by simp [upd, e12, e18, e13])]; first | rfl | simp [go_sem]) fun Fp8 => ?_
              refine lyp Fp8 rfl HCC rfl (by omega) (wanted_none rfl) (v := Value.pointer (some ⟨xb, 0, none⟩)) (fun wr hwr => by simp only [execOp, (Fp8.eval 99 (by omega)).trans (show _ = Value.pointer (some ⟨xb, 0, none⟩) from by simp [upd, e12, e18, e13])]; simp [go_sem]) fun Fp9 => ?_
              refine lyp Fp9 rfl HCC rfl (by omega) (wanted_none rfl) (v := Value.pointer (some ⟨xb, 2, none⟩)) (fun wr hwr => by simp only [execOp, (Fp9.eval 101 (by omega)).trans (show _ = Value.pointer (some ⟨xb, 0, none⟩) from by simp [upd, e12, e18, e13])]; simp [go_sem]) fun Fp10 => ?_
              refine lyp Fp10 rfl HCC rfl (by omega) (wanted_none rfl) (v := Value.pointer (some ⟨xb, 3, none⟩)) (fun wr hwr => by simp only [execOp, (Fp10.eval 102 (by omega)).trans (show _ = Value.pointer (some ⟨xb, 2, none⟩) from by simp [upd, e12, e18, e13]), (Fp10.eval 100 (by omega)).trans (show _ = Value.int .i64 1 from by simp [upd, e12, e18, e13])]; simp [go_sem, Act.eval]) fun Fp11 => ?_
              refine lyp Fp11 rfl HCC rfl (by omega) (wanted_none rfl) (v := Value.slice io il ic) (fun wr hwr => by simp only [execOp, (Fp11.eval 103 (by omega)).trans (show _ = Value.pointer (some ⟨xb, 3, none⟩) from by simp [upd, e12, e18, e13])]; simp [go_sem, VI wr hwr]) fun Fp12 => ?_
              refine lyp Fp12 rfl HCC rfl (by omega) (wanted_none rfl) (v := Value.int .i64 (il : Nat)) (fun wr hwr => by simp only [execOp, resolve, invoke, builtin, List.map_toArray, List.map_cons, List.map_nil, (Fp12.eval 104 (by omega)).trans (show _ = Value.slice io il ic from by simp [upd, e12, e18, e13])]; simp [go_sem, Builtin.len_, Builtin.lenOf]) fun Fp13 => ?_
              refine lyp Fp13 rfl HCC rfl (by omega) (wanted_none rfl) (v := Value.bool false) (fun wr hwr => by simp only [execOp, (Fp13.eval 98 (by omega)).trans (show _ = Value.int .i64 (il : Int) from by simp [upd, e12, e18, e13]), (Fp13.eval 105 (by omega)).trans (show _ = Value.int .i64 (il : Nat) from by simp [upd, e12, e18, e13])]; simp [go_sem, Act.eval]) fun Fp14 => ?_
              refine lyp Fp14 rfl HCC rfl (by omega) (wanted_none rfl) (v := Value.bool false) (fun wr hwr => by simp only [execOp, (Fp14.eval 106 (by omega)).trans (show _ = Value.bool false from by simp [upd, e12, e18, e13])]; first | rfl | simp [go_sem]) fun Fp15 => ?_
              refine lyp Fp15 rfl HCC rfl (by omega) (want_yes Fp15 rfl (e := 107) rfl (by omega) (show _ = Value.bool false from by simp [upd, e12, e18, e13])) (v := Value.pointer (some ⟨xb, 0, none⟩)) (fun wr hwr => by simp only [execOp, (Fp15.eval 12 (by omega)).trans (show _ = Value.pointer (some ⟨xb, 0, none⟩) from by simp [upd, e12, e18, e13])]; first | rfl | simp [go_sem]) fun Fp16 => ?_
              refine lyp Fp16 rfl HCC rfl (by omega) (want_yes Fp16 rfl (e := 107) rfl (by omega) (show _ = Value.bool false from by simp [upd, e12, e18, e13])) (v := Value.int .i64 1) (fun wr hwr => by simp only [execOp, (Fp16.eval 18 (by omega)).trans (show _ = Value.int .i64 1 from by simp [upd, e12, e18, e13])]; first | rfl | simp [go_sem]) fun Fp17 => ?_
              refine lyp Fp17 rfl HCC rfl (by omega) (want_yes Fp17 rfl (e := 107) rfl (by omega) (show _ = Value.bool false from by simp [upd, e12, e18, e13])) (v := Value.pointer (some ⟨xb, 0, none⟩)) (fun wr hwr => by simp only [execOp, (Fp17.eval 108 (by omega)).trans (show _ = Value.pointer (some ⟨xb, 0, none⟩) from by simp [upd, e12, e18, e13])]; simp [go_sem]) fun Fp18 => ?_
              refine lyp Fp18 rfl HCC rfl (by omega) (want_yes Fp18 rfl (e := 107) rfl (by omega) (show _ = Value.bool false from by simp [upd, e12, e18, e13])) (v := Value.pointer (some ⟨xb, 0, none⟩)) (fun wr hwr => by simp only [execOp, (Fp18.eval 110 (by omega)).trans (show _ = Value.pointer (some ⟨xb, 0, none⟩) from by simp [upd, e12, e18, e13])]; simp [go_sem]) fun Fp19 => ?_
              refine lyp Fp19 rfl HCC rfl (by omega) (want_yes Fp19 rfl (e := 107) rfl (by omega) (show _ = Value.bool false from by simp [upd, e12, e18, e13])) (v := Value.pointer (some ⟨xb, 1, none⟩)) (fun wr hwr => by simp only [execOp, (Fp19.eval 111 (by omega)).trans (show _ = Value.pointer (some ⟨xb, 0, none⟩) from by simp [upd, e12, e18, e13]), (Fp19.eval 109 (by omega)).trans (show _ = Value.int .i64 1 from by simp [upd, e12, e18, e13])]; simp [go_sem, Act.eval]) fun Fp20 => ?_
              refine lyp Fp20 rfl HCC rfl (by omega) (want_yes Fp20 rfl (e := 107) rfl (by omega) (show _ = Value.bool false from by simp [upd, e12, e18, e13])) (v := Value.pointer (some ⟨lj, 0, none⟩)) (fun wr hwr => by simp only [execOp, (Fp20.eval 112 (by omega)).trans (show _ = Value.pointer (some ⟨xb, 1, none⟩) from by simp [upd, e12, e18, e13])]; simp [go_sem, VL wr hwr]) fun Fp21 => ?_
              refine lcp Fp21 rfl HCC rfl (by omega) (want_yes Fp21 rfl (e := 107) rfl (by omega) (show _ = Value.bool false from by simp [upd, e12, e18, e13])) (g := 14) (args := #[Value.pointer (some ⟨lj, 0, none⟩)]) (by simp only [execOp, resolve, invoke, List.map_toArray, List.map_cons, List.map_nil, (Fp21.eval 113 (by omega)).trans (show _ = Value.pointer (some ⟨lj, 0, none⟩) from by simp [upd, e12, e18, e13])]; simp [go_sem, Act.eval]) HUN.out ?_
              rintro e w5 ⟨v5, l5, rfl, hl5, hSL5, hb5⟩
              obtain ⟨vo5, vc5, hv5⟩ : ∃ vo5 vc5, v5 = .slice vo5 0 vc5 := HU0.out v5 l5 w5 hl5 hSL5
              subst hv5
              refine ⟨_, rfl, fun Fp22 => ?_⟩
              have HC5 : (fun wz => Below wr.heap.size wr wz) w5 := Below.undrew hb5
              refine lyp Fp22 rfl HC5 rfl (by omega) (want_yes Fp22 rfl (e := 107) rfl (by omega) (show _ = Value.bool false from by simp [upd, e12, e18, e13])) (v := Value.int .i64 (0 : Nat)) (fun wr hwr => by simp only [execOp, resolve, invoke, builtin, List.map_toArray, List.map_cons, List.map_nil, (Fp22.eval 114 (by omega)).trans (show _ = Value.slice vo5 0 vc5 from by simp [upd, e12, e18, e13])]; simp [go_sem, Builtin.len_, Builtin.lenOf]) fun Fp23 => ?_
              refine lyp Fp23 rfl HC5 rfl (by omega) (want_yes Fp23 rfl (e := 107) rfl (by omega) (show _ = Value.bool false from by simp [upd, e12, e18, e13])) (v := Value.bool false) (fun wr hwr => by simp only [execOp, (Fp23.eval 115 (by omega)).trans (show _ = Value.int .i64 (0 : Nat) from by simp [upd, e12, e18, e13])]; simp [go_sem, Act.eval]) fun Fp24 => ?_
              refine lyp Fp24 rfl HC5 rfl (by omega) (wanted_none rfl) (v := Value.bool false) (fun wr hwr => by simp only [execOp, (Fp24.eval 107 (by omega)).trans (show _ = Value.bool false from by simp [upd, e12, e18, e13]), (Fp24.eval 116 (by omega)).trans (show _ = Value.bool false from by simp [upd, e12, e18, e13])]; simp [go_sem, Act.eval]) fun Fp25 => ?_
              refine lyp Fp25 rfl HC5 rfl (by omega) (wanted_none rfl) (v := Value.bool false) (fun wr hwr => by simp only [execOp, (Fp25.eval 117 (by omega)).trans (show _ = Value.bool false from by simp [upd, e12, e18, e13])]; first | rfl | simp [go_sem]) fun Fp26 => ?_
              refine lyp Fp26 rfl HC5 rfl (by omega) (want_yes Fp26 rfl (e := 118) rfl (by omega) (show _ = Value.bool false from by simp [upd, e12, e18, e13])) (v := Value.pointer (some ⟨xb, 0, none⟩)) (fun wr hwr => by simp only [execOp, (Fp26.eval 12 (by omega)).trans (show _ = Value.pointer (some ⟨xb, 0, none⟩) from by simp [upd, e12, e18, e13])]; first | rfl | simp [go_sem]) fun Fp27 => ?_
              refine lyp Fp27 rfl HC5 rfl (by omega) (want_yes Fp27 rfl (e := 118) rfl (by omega) (show _ = Value.bool false from by simp [upd, e12, e18, e13])) (v := Value.int .i64 1) (fun wr hwr => by simp only [execOp, (Fp27.eval 18 (by omega)).trans (show _ = Value.int .i64 1 from by simp [upd, e12, e18, e13])]; first | rfl | simp [go_sem]) fun Fp28 => ?_
              refine lyp Fp28 rfl HC5 rfl (by omega) (want_yes Fp28 rfl (e := 118) rfl (by omega) (show _ = Value.bool false from by simp [upd, e12, e18, e13])) (v := Value.pointer (some ⟨xb, 0, none⟩)) (fun wr hwr => by simp only [execOp, (Fp28.eval 119 (by omega)).trans (show _ = Value.pointer (some ⟨xb, 0, none⟩) from by simp [upd, e12, e18, e13])]; simp [go_sem]) fun Fp29 => ?_
              refine lyp Fp29 rfl HC5 rfl (by omega) (want_yes Fp29 rfl (e := 118) rfl (by omega) (show _ = Value.bool false from by simp [upd, e12, e18, e13])) (v := Value.pointer (some ⟨xb, 0, none⟩)) (fun wr hwr => by simp only [execOp, (Fp29.eval 121 (by omega)).trans (show _ = Value.pointer (some ⟨xb, 0, none⟩) from by simp [upd, e12, e18, e13])]; simp [go_sem]) fun Fp30 => ?_
              refine lyp Fp30 rfl HC5 rfl (by omega) (want_yes Fp30 rfl (e := 118) rfl (by omega) (show _ = Value.bool false from by simp [upd, e12, e18, e13])) (v := Value.pointer (some ⟨xb, 1, none⟩)) (fun wr hwr => by simp only [execOp, (Fp30.eval 122 (by omega)).trans (show _ = Value.pointer (some ⟨xb, 0, none⟩) from by simp [upd, e12, e18, e13]), (Fp30.eval 120 (by omega)).trans (show _ = Value.int .i64 1 from by simp [upd, e12, e18, e13])]; simp [go_sem, Act.eval]) fun Fp31 => ?_
              refine lyp Fp31 rfl HC5 rfl (by omega) (want_yes Fp31 rfl (e := 118) rfl (by omega) (show _ = Value.bool false from by simp [upd, e12, e18, e13])) (v := Value.pointer (some ⟨lj, 0, none⟩)) (fun wr hwr => by simp only [execOp, (Fp31.eval 123 (by omega)).trans (show _ = Value.pointer (some ⟨xb, 1, none⟩) from by simp [upd, e12, e18, e13])]; simp [go_sem, VL wr hwr]) fun Fp32 => ?_
              refine lcp Fp32 rfl HC5 rfl (by omega) (want_yes Fp32 rfl (e := 118) rfl (by omega) (show _ = Value.bool false from by simp [upd, e12, e18, e13])) (g := 12) (args := #[Value.pointer (some ⟨lj, 0, none⟩)]) (by simp only [execOp, resolve, invoke, List.map_toArray, List.map_cons, List.map_nil, (Fp32.eval 124 (by omega)).trans (show _ = Value.pointer (some ⟨lj, 0, none⟩) from by simp [upd, e12, e18, e13])]; simp [go_sem, Act.eval]) (HRM.out w5 HC5) ?_
              rintro e w6 ⟨rfl, q6, rfl⟩
              refine ⟨_, rfl, fun Fp33 => ?_⟩
              have HC6 : (fun wz => Below wr.heap.size wr wz) (w5.drewN q6) := below_drewN HC5 q6
              refine lyp Fp33 rfl HC6 rfl (by omega) (want_yes Fp33 rfl (e := 118) rfl (by omega) (show _ = Value.bool false from by simp [upd, e12, e18, e13])) (v := Value.int .i64 1) (fun wr hwr => by simp only [execOp, (Fp33.eval 18 (by omega)).trans (show _ = Value.int .i64 1 from by simp [upd, e12, e18, e13])]; first | rfl | simp [go_sem]) fun Fp34 => ?_
              refine lyp Fp34 rfl HC6 rfl (by omega) (want_yes Fp34 rfl (e := 118) rfl (by omega) (show _ = Value.bool false from by simp [upd, e12, e18, e13])) (v := Value.pointer (some ⟨nb, 1, none⟩)) (fun wr hwr => by simp only [execOp, (Fp34.eval 13 (by omega)).trans (show _ = Value.pointer (some ⟨nb, 0, none⟩) from by simp [upd, e12, e18, e13]), (Fp34.eval 126 (by omega)).trans (show _ = Value.int .i64 1 from by simp [upd, e12, e18, e13])]; simp [go_sem, Act.eval]) fun Fp35 => ?_
              refine lyp Fp35 rfl HC6 rfl (by omega) (want_yes Fp35 rfl (e := 118) rfl (by omega) (show _ = Value.bool false from by simp [upd, e12, e18, e13])) (v := Value.int .i64 (winOf wa wb 1 : Int)) (fun wr hwr => by simp only [execOp, (Fp35.eval 127 (by omega)).trans (show _ = Value.pointer (some ⟨nb, 1, none⟩) from by simp [upd, e12, e18, e13])]; simp [go_sem, VW wr hwr]) fun Fp36 => ?_
              refine lyp Fp36 rfl HC6 rfl (by omega) (want_yes Fp36 rfl (e := 118) rfl (by omega) (show _ = Value.bool false from by simp [upd, e12, e18, e13])) (v := Value.bool false) (fun wr hwr => by simp only [execOp, (Fp36.eval 125 (by omega)).trans (show _ = Value.int .i64 (winOf wa wb 1 : Int) from by simp [upd, e12, e18, e13]), (Fp36.eval 128 (by omega)).trans (show _ = Value.int .i64 (winOf wa wb 1 : Int) from by simp [upd, e12, e18, e13])]; simp [go_sem, Act.eval]) fun Fp37 => ?_
              refine lyp Fp37 rfl HC6 rfl (by omega) (wanted_none rfl) (v := Value.bool false) (fun wr hwr => by simp only [execOp, (Fp37.eval 118 (by omega)).trans (show _ = Value.bool false from by simp [upd, e12, e18, e13]), (Fp37.eval 129 (by omega)).trans (show _ = Value.bool false from by simp [upd, e12, e18, e13])]; simp [go_sem, Act.eval]) fun Fp38 => ?_
              refine ⟨fun _ => HC6, ?_⟩
              refine hK _ _ ?_
              clear F0 Fp1 Fp2 Fp3 Fp4 Fp5 Fp6 Fp7 Fp8 Fp9 Fp10 Fp11 Fp12 Fp13 Fp14 Fp15 Fp16 Fp17 Fp18 Fp19 Fp20 Fp21 Fp22 Fp23 Fp24 Fp25 Fp26 Fp27 Fp28 Fp29 Fp30 Fp31 Fp32 Fp33 Fp34 Fp35 Fp36 Fp37 Fp38 e12 e18 e13 HCC HC6
              simp only [Act.put, List.setIfInBounds_toArray, List.set_cons_succ, List.set_cons_zero]
              have HR6 : Hid (RS W L xb nb (winOf wa wb) n t S (w5.drewN q6)) := HR.out.more (below_drewN (Below.undrew hb5) q6)
              clear VO VI VL VW HUN HU0 HRM hl5 hSL5 hb5
              go_wp2_with fail
              go_roundw
              case rel => exact ⟨1 + 1, by omega, by go_num, HR6.out⟩
              case measure => simp [intOf]
            · obtain ⟨col, g1, g4⟩ := HR.out.ex
              have c0 : wr.cell? ⟨xb, 0, none⟩ = some (.pointer (some ⟨(S.e 0).lb, 0, none⟩)) := g1.b.cell 0
              have HG : Hid (GO L xb S col wr col wr) := GO.refl g1
              clear g1 g4
              go_wp2_with fail
              refine Calls.mono (out_any wr (HG.out.ln.em 0 (by omega)).lm (by have := (HR.out.i.nums (i := 0) (by omega)).1; omega) (by have := (HR.out.i.nums (i := 0) (by omega)).2.1; omega) (by have := (HR.out.i.nums (i := 0) (by omega)).2.2.1; omega) (by have := (HR.out.i.nums (i := 0) (by omega)).2.2.2.1; omega) (fun d hd => by have := (HR.out.i.nums (i := 0) (by omega)).2.2.2.2.1 d hd; omega)) ?_
              rintro e w4 ⟨v4, uv4, l4, rfl, hl4, hSL4, hM4, hs4, hdj4⟩
              have hz := HR.out.z 0 (by omega)
              rw [rest_tells hz.1 hz.2.2.1 hz.2.2.2.1] at hl4
              obtain rfl : l4 = [] := List.map_eq_nil_iff.1 hl4
              obtain ⟨vo4, vc4, hv4, un4⟩ := own_slice hSL4.r
              subst hv4
              obtain ⟨col4, hg4⟩ := HG.out.endX (i := 0) (by omega) hM4 hs4
              obtain ⟨S4, hS4⟩ : ∃ S4, S4 = S.endX 0 uv4 ((S.e 0).x.calm.moved (S.e 0).x.box.length) := ⟨_, rfl⟩
              rw [← hS4] at hg4
              have HG4 : Hid (GO L xb S4 col wr col4 w4) := hg4
              have e41 : S4.e 1 = S.e 1 := by rw [hS4]; exact Ln.endX_ne _ _ _ (by decide)
              have HI4 : Hid (LInv S4 (winOf wa wb) n t) := show LInv _ _ _ _ from by rw [hS4]; exact (HR.out.i.out (i := 0) (by omega) uv4).1
              have c1 : w4.cell? ⟨xb, 1, none⟩ = some (.pointer (some ⟨(S4.e 1).lb, 0, none⟩)) := hg4.ln.b.cell 1
              have HE41 : Hid (S4.e 1 = S.e 1) := e41
              clear hz hl4 hSL4 hM4 hs4 hdj4 un4 hg4 hS4 e41 c0
              go_wp2_with fail
              refine Calls.mono (out_any w4 (HG4.out.ln.em 1 (by omega)).lm (by have := (HI4.out.nums (i := 1) (by omega)).1; omega) (by have := (HI4.out.nums (i := 1) (by omega)).2.1; omega) (by have := (HI4.out.nums (i := 1) (by omega)).2.2.1; omega) (by have := (HI4.out.nums (i := 1) (by omega)).2.2.2.1; omega) (fun d hd => by have := (HI4.out.nums (i := 1) (by omega)).2.2.2.2.1 d hd; omega)) ?_
              rintro e w5 ⟨v5, uv5, l5, rfl, hl5, hSL5, hM5, hs5, hdj5⟩
              have hz := HR.out.z 1 (by omega)
              rw [HE41.out, rest_tells hz.1 hz.2.2.1 hz.2.2.2.1] at hl5
              obtain rfl : l5 = [] := List.map_eq_nil_iff.1 hl5
              obtain ⟨vo5, vc5, hv5, un5⟩ := own_slice hSL5.r
              subst hv5
              obtain ⟨col5, hg5⟩ := HG4.out.endX (i := 1) (by omega) hM5 hs5
              have HB5 : Hid (Below W.heap.size W w5) := show Below _ _ _ from HR.out.bl.trans (hg5.bl.mono HR.out.lo)
              clear hz hl5 hSL5 hM5 hs5 hdj5 un5 hg5 c1
              go_wp2_with fail
              go_ret
              exact ⟨rfl, HB5.out⟩
end Go.Proofs.Ytcjgicfmfjomgaa
namespace Go.Proofs.Ytcjgicfmfjomgaa.linkCalm
open Go.ChangeShapes Go.WideShapes Go.ChangeAt Go.RowKit Go.WideMaps Go.WideElems

set_option maxRecDepth 100000 in
set_option maxHeartbeats 1600000 in
theorem contract (H : Type) (enc : TypeId × Value → H) (W : World) (base : Nat) (args : Array Value) (ds gs : List (DataW H)) (before : List MemPlace)
    (hval : ∀ (j : Nat) t v, Try.f6.params[j]? = some t → args[j]? = some v → Value.okWide Try.prog W .any base t v)
    (hW : DataW.Whole enc Try.prog Try.f6.params.toList Rows.linkCalmSpec.vars false W args.toList ds gs before)
    (hsz : (DataW.weightsEach Try.prog (Try.f6.params.toList ++ Rows.linkCalmSpec.plain.varTypes Try.prog) (ds ++ gs)).all (· ≤ reachBytes) = true) :
    Calls Try.prog 6 args W fun e W' => ∃ v, e = .returned v ∧ Rows.linkCalmSpec.post enc Try.prog Try.f6 false true false false W args v W' := by
  have hW' := hW
  obtain ⟨p, q, hA0, hV, rfl, hfz, hnd⟩ := hW
  have hA : DataW.TrodAll enc Try.prog W 0 (fun _ => true) true Try.f6.params.toList args.toList ds p := hA0
  rw [Try.params6] at hA hval
  obtain ⟨v0, vs0, d0, ds0, p0, q0, hargs, rfl, rfl, h0, r0⟩ := trodAll_cons hA
  obtain ⟨v1, vs1, d1, ds1, p1, q1, rfl, rfl, rfl, h1, r1⟩ := trodAll_cons r0
  obtain ⟨v2, vs2, d2, ds2, p2, q2, rfl, rfl, rfl, h2, r2⟩ := trodAll_cons r1
  obtain ⟨v3, vs3, d3, ds3, p3, q3, rfl, rfl, rfl, h3, r3⟩ := trodAll_cons r2
  obtain ⟨v4, vs4, d4, ds4, p4, q4, rfl, rfl, rfl, h4, r4⟩ := trodAll_cons r3
  obtain ⟨rfl, rfl, rfl⟩ := trodAll_nil r4
  obtain rfl : args = #[v0, v1, v2, v3, v4] := by cases args; simp_all
  obtain ⟨rfl, rfl⟩ := trodVars_none hV
  clear hA0 r0 r1 r2 r3 r4 hA
  obtain ⟨z0, rfl, rfl, rfl, w0⟩ := open_int Try.underlying3 (hval 0 3 v0 rfl rfl) h0
  obtain ⟨z1, rfl, rfl, rfl, w1⟩ := open_int Try.underlying3 (hval 1 3 v1 rfl rfl) h1
  obtain ⟨z2, rfl, rfl, rfl, w2⟩ := open_int Try.underlying3 (hval 2 3 v2 rfl rfl) h2
  have hlt3 : ∀ x ∈ p3, x.block < W.heap.size := fun x hx => hW'.lt x (by simp [hx])
  have hw3 : ∀ n ∈ d3.weights Try.prog 48, n ≤ reachBytes := fun n hn => by
    have := List.all_eq_true.1 hsz n (DataW.weights_mem_each (j := 3) (t := 48) (d := d3) (by rw [Try.params6]; rfl) rfl n hn)
    simpa using this
  obtain ⟨ao3, N3, cap3, os3, rfl, hl3, hnc3, hcm3, hok3, hnl3, hat3⟩ := open_rows 48 54 4 Mv.row (Mv.ok W) Try.underlying48 cells54 (by decide) (fun _ => rfl) (fun _ _ _ h hw => t_mv h hw) (hval 3 48 v3 rfl rfl) h3 hw3
  have hlt4 : ∀ x ∈ p4, x.block < W.heap.size := fun x hx => hW'.lt x (by simp [hx])
  have hw4 : ∀ n ∈ d4.weights Try.prog 41, n ≤ reachBytes := fun n hn => by
    have := List.all_eq_true.1 hsz n (DataW.weights_mem_each (j := 4) (t := 41) (d := d4) (by rw [Try.params6]; rfl) rfl n hn)
    simpa using this
  obtain ⟨lo4, ln4, lc4, rfl⟩ := okWide_slice Try.underlying41 (hval 4 41 v4 rfl rfl)
  obtain ⟨fuel4, hf4⟩ := id h4
  obtain ⟨dv4, e4, hby4, hln4⟩ := t_bytes hf4 hw4
  have ev4 : dv4.v = .slice lo4 ln4 lc4 := by simpa [Value.cells] using e4.symm
  rw [ev4] at hby4
  refine (calm_law z0 z1 z2 (bounds_i64 w0) (bounds_i64 w1) (bounds_i64 w2) ao3 N3 cap3 os3 W hl3 (by unfold maxLen at hcm3; omega) hok3 hat3 lo4 ln4 lc4 dv4.s hby4 hln4).mono fun e W' ⟨he, hbl⟩ => ?_
  subst he
  exact ⟨_, rfl, _, _, _, [], _, [], hW', trodAll_cons_mk (shut_bool Try.underlying4 _) trodAll_mk0, trodAll_cons_mk (shut_int Try.underlying3 w0) (trodAll_cons_mk (shut_int Try.underlying3 w1) (trodAll_cons_mk (shut_int Try.underlying3 w2) (trodAll_cons_mk (Below.trod laidOut (by kernel_rfl) (of_decide_eq_true (by kernel_rfl)) h3 hbl hlt3) (trodAll_cons_mk (Below.trod laidOut (by kernel_rfl) (of_decide_eq_true (by kernel_rfl)) h4 hbl hlt4) trodAll_mk0)))), rfl, hbl.frame _, fun h => by cases h⟩

set_option maxRecDepth 100000 in
theorem lifted (os : Os) (started : os.Started) (H : Type) (enc : TypeId × Value → H) :
    ReturnsInHanded {} Try.checked os 6 .any (Rows.linkCalmSpec.pre6 enc Try.prog Try.f6 Rows.linkCalmRow.domain false) (Rows.linkCalmSpec.post enc Try.prog Try.f6 false true false false) := by
  refine returnsInHanded_of_change_sized (C := Try.checked) (s := Rows.linkCalmSpec) own started (by kernel_rfl) Try.func6
    (ChangeSpec.witness6 (enc := enc) (C := Try.checked) (s := Rows.linkCalmSpec) false ⟨#[], #[.int .i64 0, .int .i64 0, .int .i64 0, .slice none 0 0, .slice none 0 0], []⟩ 8 (by kernel_rfl) (by kernel_rfl) (by kernel_rfl) (by kernel_rfl)) ?_
  intro W base args ds gs before hval hW _ hsz _
  exact contract H enc W base args ds gs before hval hW hsz

theorem said : Rows.LinkCalmSaid :=
  OpenClaim.holds_of_wide 6 Try.f6 rfl rfl rfl rfl rfl rfl rfl ⟨rfl, rfl, rfl, rfl, rfl⟩ rfl rfl rfl rfl rfl (by kernel_rfl) Try.func6 (by kernel_rfl)
    (of_decide_eq_true (by kernel_rfl)) (by unfold Func.isWrapper; first | (rw [if_pos (by decide +kernel)]; kernel_rfl) | (rw [if_neg (by decide +kernel)]; exact ⟨rfl, rfl⟩))
    (fun os started H enc _ => lifted os started H enc)
end Go.Proofs.Ytcjgicfmfjomgaa.linkCalm

namespace Go.Proofs.Ytcjgicfmfjomgaa
theorem linkCalm_said : Rows.LinkCalmSaid := linkCalm.said
end Go.Proofs.Ytcjgicfmfjomgaa
