import Derived.Test.YtnphkmdanicemaaGreatDoorG0
import Derived.Test.YtnphkmdanicemaaGreatDoorVKn
import Derived.Test.YtnphkmdanicemaaGreatDoorVAsk
namespace Go.Proofs.YtnphkmdanicemaaGreatDoor
open Go.RowKit Go.PlainAid Go.MapKept
set_option linter.unusedVariables false
set_option linter.unusedSimpArgs false
theorem flatR_get2 : ∀ (rs : List (Int × Int)) (i : Nat) (p : Int × Int), rs[i]? = some p → (flatR rs)[i * 2]? = some (.int .i64 p.1) ∧ (flatR rs)[i * 2 + 1]? = some (.int .i64 p.2)
  | [], i, p, h => by simp at h
  | q :: t, 0, p, h => by
    simp at h
    subst h
    exact ⟨rfl, rfl⟩
  | q :: t, i + 1, p, h => by
    have ih := flatR_get2 t i p (by simpa using h)
    rw [flatR_cons]
    constructor
    · rw [show (i + 1) * 2 = i * 2 + 1 + 1 from by omega, List.getElem?_cons_succ, List.getElem?_cons_succ]
      exact ih.1
    · rw [show (i + 1) * 2 + 1 = i * 2 + 1 + 1 + 1 from by omega, List.getElem?_cons_succ, List.getElem?_cons_succ]
      exact ih.2
def zerA (n : Nat) : Array Value := ((List.replicate n (0 : Int)).map I).toArray
theorem makeI_run (n : Nat) (hn : n ≤ 1000) (w : World) : (Instr.makeSlice 144 (.int .i64 (n : Int)) (.int .i64 (n : Int))).run Tryz.prog w = .ok (.slice (some ⟨w.heap.size, 0, none⟩) n n) (w.alloc (.cells (zerA n) 3)) := by
  obtain ⟨i0, hi, hz0, hz1, hz2⟩ := info_parts info3
  have hr := run_make (P := Tryz.prog) w 144 3 i0 _ Tryz.underlying144 hi hz0 .i64 .i64 n n (by omega) (Int.le_refl _) (by rw [hz2]; omega) (by omega)
  simp only [Int.toNat_natCast] at hr
  rw [hz1] at hr
  have e : madeCells (Value.int .i64 0).cells (n * 1) = zerA n := by
    apply Array.ext'
    apply List.ext_getElem?
    intro j
    simp only [madeCells, Nat.mul_one, zerA]
    by_cases h : j < n
    · simp [h, Value.cells, I, Nat.mod_one]
    · simp [h]
  rw [e] at hr
  exact hr
set_option maxRecDepth 100000 in
set_option maxHeartbeats 3200000 in
theorem most_downs {gb mb g N : Nat} {me : Int} {L : GL} {rs : List Rg} (w : World) (h : Gs gb mb me N L w) (hme : IntKind.i64.wrap me = me) (hl : rs.length = N) (hB : Blk w g (flatR rs).toArray 37) (hN : N ≤ 16) :
    Calls Tryz.prog 63 #[.pointer (some ⟨gb, 0, none⟩), .slice (some ⟨g, 0, none⟩) N N, .func (.func 64) #[] #[]] w fun e w' => e = .returned (.int .i64 (askTo me (rs.map (·.1)) N).1) ∧ Below w.heap.size w w' := by
  have c0 : w.cell? ⟨gb, 0, none⟩ = some (.int .i64 me) := h.blk.cell 0
  have c1 : w.cell? ⟨gb, 1, none⟩ = some (.int .i64 (N : Int)) := h.blk.cell 1
  have hmk := makeI_run N (by omega)
  have H0 : Hid (Blk (w.alloc (.cells (zerA N) 3)) w.heap.size (zerA N) 3) := heap_alloc_new w _
  have HB0 : Hid (Below w.heap.size w (w.alloc (.cells (zerA N) 3))) := (Below.refl _ _).alloc (Nat.le_refl _) _
  have HH : Hid (Gs gb mb me N L w) := h
  have HR : Hid (Blk w g (flatR rs).toArray 37) := hB
  have HL : Hid (rs.length = N) := hl
  have HF : Hid (∀ d u W, Calls Tryz.prog 64 #[.agg #[.int .i64 d, .int .i64 u]] W fun r w' => r = .returned (.int .i64 d) ∧ Below W.heap.size W w') := downs_any
  clear h hB hl
  go_enter Tryz.func63, Tryz.ntmps63
  go_wp2_with fail
  obtain ⟨cb, hcb⟩ : ∃ cb, cb = w.heap.size := ⟨_, rfl⟩
  rw [← hcb] at H0 ⊢
  have HC : Hid (cb = w.heap.size) := hcb
  generalize w.alloc (.cells (zerA N) 3) = W1 at *
  clear hcb hmk c0 c1
  go_loopw [20] (fun i wr => ∃ q : Nat, q ≤ N ∧ i = .int .i64 q ∧ Blk wr cb ((((rs.map (·.1)).take q ++ List.replicate (N - q) (0 : Int))).map I).toArray 3 ∧ Below w.heap.size w wr) (fun i _ => N - (intOf i).toNat)
  case atStart => exact ⟨0, Nat.zero_le _, rfl, by simpa [zerA] using H0.out, HB0.out⟩
  case round =>
    obtain ⟨q, hq, rfl, hblk, hbel⟩ := hrel
    have HBK : Hid (Blk wr cb ((((rs.map (·.1)).take q ++ List.replicate (N - q) (0 : Int))).map I).toArray 3) := hblk
    have HBE : Hid (Below w.heap.size w wr) := hbel
    clear hblk hbel
    by_cases hlt : q < N
    · have hq2 : q < rs.length := by rw [HL.out]; exact hlt
      obtain ⟨f0, f1⟩ := flatR_get2 rs q _ (List.getElem?_eq_getElem hq2)
      have hR := HR.out.below HBE.out HR.out.lt
      have r0 : wr.cell? ⟨g, q * 2, none⟩ = some (.int .i64 rs[q].1) := (hR.cell _).trans (by rw [List.getElem?_toArray]; exact f0)
      have r1 : wr.cell? ⟨g, q * 2 + 1, none⟩ = some (.int .i64 rs[q].2) := (hR.cell _).trans (by rw [List.getElem?_toArray]; exact f1)
      have hnx : ((rs.map (·.1)).take q ++ List.replicate (N - q) (0 : Int)).set q rs[q].1 = (rs.map (·.1)).take (q + 1) ++ List.replicate (N - (q + 1)) (0 : Int) := by
        have hlt2 : ((rs.map (·.1)).take q).length = q := by rw [List.length_take, List.length_map]; omega
        rw [List.set_append_right _ _ (by omega), hlt2, Nat.sub_self, show N - q = (N - (q + 1)) + 1 from by omega, List.replicate_succ, List.set_cons_zero, List.take_add_one, List.getElem?_map, List.getElem?_eq_getElem hq2]
        simp
      have HNX : Hid (((rs.map (·.1)).take q ++ List.replicate (N - q) (0 : Int)).set q rs[q].1 = (rs.map (·.1)).take (q + 1) ++ List.replicate (N - (q + 1)) (0 : Int)) := hnx
      have hsz : q < ((rs.map (·.1)).take q ++ List.replicate (N - q) (0 : Int)).length := by simp; omega
      have HSZ : Hid (q < ((rs.map (·.1)).take q ++ List.replicate (N - q) (0 : Int)).length) := hsz
      generalize hd : rs[q].1 = rd at *
      generalize hu : rs[q].2 = ru at *
      clear hnx hR f0 f1 hsz hd hu
      go_wp2_with fail
      refine Calls.mono (HF.out rd ru wr) ?_
      rintro e9 V ⟨rfl, hbV⟩
      have hBV := HBK.out.below hbV HBK.out.lt
      obtain ⟨x0, cx⟩ : ∃ x, V.cell? ⟨cb, q, none⟩ = some x := ⟨_, (hBV.cell q).trans (Array.getElem?_eq_getElem (by simpa using HSZ.out))⟩
      have fx := hBV.frozen q
      have HB2 : Hid (Blk (V.setCell ⟨cb, q, none⟩ (.int .i64 rd)) cb (((rs.map (·.1)).take (q + 1) ++ List.replicate (N - (q + 1)) (0 : Int)).map I).toArray 3) := show Blk (V.setCell ⟨cb, q, none⟩ (.int .i64 rd)) cb (((rs.map (·.1)).take (q + 1) ++ List.replicate (N - (q + 1)) (0 : Int)).map I).toArray 3 from by
        have := hBV.set q (.int .i64 rd)
        rw [List.setIfInBounds_toArray, show (Value.int .i64 rd) = I rd from rfl, ← List.map_set, HNX.out] at this
        exact this
      have HBE2 : Hid (Below w.heap.size w (V.setCell ⟨cb, q, none⟩ (.int .i64 rd))) := (HBE.out.trans (hbV.mono HBE.out.size)).trans ⟨rfl, rfl, rfl, by simp [World.setCell], fun k hk => Below.heap_setCell _ _ _ _ (by rw [HC.out]; exact Nat.ne_of_lt hk)⟩
      clear hbV hBV r0 r1
      go_wp2_with fail
      go_roundw
      case rel => exact ⟨q + 1, by omega, by go_num, HB2.out, HBE2.out⟩
      case measure => simp [intOf]; omega
    · obtain rfl : q = N := by omega
      have c0 : wr.cell? ⟨gb, 0, none⟩ = some (.int .i64 me) := (HH.out.more HBE.out).blk.cell 0
      have hz : ((rs.map (·.1)).take q ++ List.replicate (q - q) (0 : Int)) = rs.map (·.1) := by rw [Nat.sub_self, List.replicate_zero, List.append_nil, List.take_of_length_le (by rw [List.length_map, HL.out]; exact Nat.le_refl _)]
      have hBz := HBK.out
      rw [hz] at hBz
      have HAS : Hid _ := ask_any (ao := some ⟨cb, 0, none⟩) (n := q) (c := q) (zs := rs.map (·.1)) me hme wr (by rw [List.length_map]; exact HL.out) (fun h0 => ⟨cb, 0, rfl, fun j z hj => by
        rw [Nat.zero_add, hBz.cell j, List.getElem?_toArray, List.getElem?_map, hj]
        rfl⟩) (by omega)
      clear hz hBz
      go_wp2_with fail
      refine Calls.mono HAS.out ?_
      rintro e9 V ⟨rfl, qq, hV⟩
      have HBV : Hid (Below w.heap.size w V) := show Below w.heap.size w V from by rw [hV]; exact ⟨HBE.out.os, HBE.out.tape, HBE.out.output, HBE.out.size, HBE.out.block⟩
      clear hV HAS c0
      go_wp2_with fail
      go_ret
      exact ⟨rfl, HBV.out⟩
set_option maxRecDepth 100000 in
set_option maxHeartbeats 3200000 in
theorem most_ups {gb mb g N : Nat} {me : Int} {L : GL} {rs : List Rg} (w : World) (h : Gs gb mb me N L w) (hme : IntKind.i64.wrap me = me) (hl : rs.length = N) (hB : Blk w g (flatR rs).toArray 37) (hN : N ≤ 16) :
    Calls Tryz.prog 63 #[.pointer (some ⟨gb, 0, none⟩), .slice (some ⟨g, 0, none⟩) N N, .func (.func 65) #[] #[]] w fun e w' => e = .returned (.int .i64 (askTo me (rs.map (·.2)) N).1) ∧ Below w.heap.size w w' := by
  have c0 : w.cell? ⟨gb, 0, none⟩ = some (.int .i64 me) := h.blk.cell 0
  have c1 : w.cell? ⟨gb, 1, none⟩ = some (.int .i64 (N : Int)) := h.blk.cell 1
  have hmk := makeI_run N (by omega)
  have H0 : Hid (Blk (w.alloc (.cells (zerA N) 3)) w.heap.size (zerA N) 3) := heap_alloc_new w _
  have HB0 : Hid (Below w.heap.size w (w.alloc (.cells (zerA N) 3))) := (Below.refl _ _).alloc (Nat.le_refl _) _
  have HH : Hid (Gs gb mb me N L w) := h
  have HR : Hid (Blk w g (flatR rs).toArray 37) := hB
  have HL : Hid (rs.length = N) := hl
  have HF : Hid (∀ d u W, Calls Tryz.prog 65 #[.agg #[.int .i64 d, .int .i64 u]] W fun r w' => r = .returned (.int .i64 u) ∧ Below W.heap.size W w') := ups_any
  clear h hB hl
  go_enter Tryz.func63, Tryz.ntmps63
  go_wp2_with fail
  obtain ⟨cb, hcb⟩ : ∃ cb, cb = w.heap.size := ⟨_, rfl⟩
  rw [← hcb] at H0 ⊢
  have HC : Hid (cb = w.heap.size) := hcb
  generalize w.alloc (.cells (zerA N) 3) = W1 at *
  clear hcb hmk c0 c1
  go_loopw [20] (fun i wr => ∃ q : Nat, q ≤ N ∧ i = .int .i64 q ∧ Blk wr cb ((((rs.map (·.2)).take q ++ List.replicate (N - q) (0 : Int))).map I).toArray 3 ∧ Below w.heap.size w wr) (fun i _ => N - (intOf i).toNat)
  case atStart => exact ⟨0, Nat.zero_le _, rfl, by simpa [zerA] using H0.out, HB0.out⟩
  case round =>
    obtain ⟨q, hq, rfl, hblk, hbel⟩ := hrel
    have HBK : Hid (Blk wr cb ((((rs.map (·.2)).take q ++ List.replicate (N - q) (0 : Int))).map I).toArray 3) := hblk
    have HBE : Hid (Below w.heap.size w wr) := hbel
    clear hblk hbel
    by_cases hlt : q < N
    · have hq2 : q < rs.length := by rw [HL.out]; exact hlt
      obtain ⟨f0, f1⟩ := flatR_get2 rs q _ (List.getElem?_eq_getElem hq2)
      have hR := HR.out.below HBE.out HR.out.lt
      have r0 : wr.cell? ⟨g, q * 2, none⟩ = some (.int .i64 rs[q].1) := (hR.cell _).trans (by rw [List.getElem?_toArray]; exact f0)
      have r1 : wr.cell? ⟨g, q * 2 + 1, none⟩ = some (.int .i64 rs[q].2) := (hR.cell _).trans (by rw [List.getElem?_toArray]; exact f1)
      have hnx : ((rs.map (·.2)).take q ++ List.replicate (N - q) (0 : Int)).set q rs[q].2 = (rs.map (·.2)).take (q + 1) ++ List.replicate (N - (q + 1)) (0 : Int) := by
        have hlt2 : ((rs.map (·.2)).take q).length = q := by rw [List.length_take, List.length_map]; omega
        rw [List.set_append_right _ _ (by omega), hlt2, Nat.sub_self, show N - q = (N - (q + 1)) + 1 from by omega, List.replicate_succ, List.set_cons_zero, List.take_add_one, List.getElem?_map, List.getElem?_eq_getElem hq2]
        simp
      have HNX : Hid (((rs.map (·.2)).take q ++ List.replicate (N - q) (0 : Int)).set q rs[q].2 = (rs.map (·.2)).take (q + 1) ++ List.replicate (N - (q + 1)) (0 : Int)) := hnx
      have hsz : q < ((rs.map (·.2)).take q ++ List.replicate (N - q) (0 : Int)).length := by simp; omega
      have HSZ : Hid (q < ((rs.map (·.2)).take q ++ List.replicate (N - q) (0 : Int)).length) := hsz
      generalize hd : rs[q].1 = rd at *
      generalize hu : rs[q].2 = ru at *
      clear hnx hR f0 f1 hsz hd hu
      go_wp2_with fail
      refine Calls.mono (HF.out rd ru wr) ?_
      rintro e9 V ⟨rfl, hbV⟩
      have hBV := HBK.out.below hbV HBK.out.lt
      obtain ⟨x0, cx⟩ : ∃ x, V.cell? ⟨cb, q, none⟩ = some x := ⟨_, (hBV.cell q).trans (Array.getElem?_eq_getElem (by simpa using HSZ.out))⟩
      have fx := hBV.frozen q
      have HB2 : Hid (Blk (V.setCell ⟨cb, q, none⟩ (.int .i64 ru)) cb (((rs.map (·.2)).take (q + 1) ++ List.replicate (N - (q + 1)) (0 : Int)).map I).toArray 3) := show Blk (V.setCell ⟨cb, q, none⟩ (.int .i64 ru)) cb (((rs.map (·.2)).take (q + 1) ++ List.replicate (N - (q + 1)) (0 : Int)).map I).toArray 3 from by
        have := hBV.set q (.int .i64 ru)
        rw [List.setIfInBounds_toArray, show (Value.int .i64 ru) = I ru from rfl, ← List.map_set, HNX.out] at this
        exact this
      have HBE2 : Hid (Below w.heap.size w (V.setCell ⟨cb, q, none⟩ (.int .i64 ru))) := (HBE.out.trans (hbV.mono HBE.out.size)).trans ⟨rfl, rfl, rfl, by simp [World.setCell], fun k hk => Below.heap_setCell _ _ _ _ (by rw [HC.out]; exact Nat.ne_of_lt hk)⟩
      clear hbV hBV r0 r1
      go_wp2_with fail
      go_roundw
      case rel => exact ⟨q + 1, by omega, by go_num, HB2.out, HBE2.out⟩
      case measure => simp [intOf]; omega
    · obtain rfl : q = N := by omega
      have c0 : wr.cell? ⟨gb, 0, none⟩ = some (.int .i64 me) := (HH.out.more HBE.out).blk.cell 0
      have hz : ((rs.map (·.2)).take q ++ List.replicate (q - q) (0 : Int)) = rs.map (·.2) := by rw [Nat.sub_self, List.replicate_zero, List.append_nil, List.take_of_length_le (by rw [List.length_map, HL.out]; exact Nat.le_refl _)]
      have hBz := HBK.out
      rw [hz] at hBz
      have HAS : Hid _ := ask_any (ao := some ⟨cb, 0, none⟩) (n := q) (c := q) (zs := rs.map (·.2)) me hme wr (by rw [List.length_map]; exact HL.out) (fun h0 => ⟨cb, 0, rfl, fun j z hj => by
        rw [Nat.zero_add, hBz.cell j, List.getElem?_toArray, List.getElem?_map, hj]
        rfl⟩) (by omega)
      clear hz hBz
      go_wp2_with fail
      refine Calls.mono HAS.out ?_
      rintro e9 V ⟨rfl, qq, hV⟩
      have HBV : Hid (Below w.heap.size w V) := show Below w.heap.size w V from by rw [hV]; exact ⟨HBE.out.os, HBE.out.tape, HBE.out.output, HBE.out.size, HBE.out.block⟩
      clear hV HAS c0
      go_wp2_with fail
      go_ret
      exact ⟨rfl, HBV.out⟩
end Go.Proofs.YtnphkmdanicemaaGreatDoor
