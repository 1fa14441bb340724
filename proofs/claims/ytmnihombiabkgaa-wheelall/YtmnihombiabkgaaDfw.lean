import Derived.Test.YtmnihombiabkgaaDf
namespace Go.Proofs.Ytmnihombiabkgaa
open Go.RowKit Go.PlainAid Go.MapKept
set_option linter.unusedVariables false
set_option linter.unusedSimpArgs false
set_option maxRecDepth 100000 in
set_option maxHeartbeats 6400000 in
theorem df_any {base whb : Nat} {now : Int} {v : Value} {l : List Tm} (w : World) (hr : w.ownsRow base 50 4 v l.length (flatT l)) (hlen : l.length ≤ 1000000) (c66 : w.cell? ⟨whb, 66, none⟩ = some (.int .i64 now)) (hne : ∀ k, v.ownBlock = some k → k ≠ whb) :
    Calls Try.prog 32 #[v, .func (.func 31) #[.pointer (some ⟨whb, 0, none⟩)] #[]] w fun r w' => ∃ v', r = .returned v' ∧ w'.ownsRow base 50 4 v' (stay now l).length (flatT (stay now l)) ∧ (∀ k, v'.ownBlock = some k → v.ownBlock = some k) ∧ Chg (fun k => v.ownBlock = some k) w w' := by
  have HIX : Hid _ := ix_any w hr hlen c66
  have HR : Hid (w.ownsRow base 50 4 v l.length (flatT l)) := hr
  have HNE : Hid (∀ k, v.ownBlock = some k → k ≠ whb) := hne
  have HC : Hid (w.cell? ⟨whb, 66, none⟩ = some (.int .i64 now)) := c66
  obtain ⟨ao, cap, hv, hnc, hcm, _⟩ := own_read hr
  subst hv
  unfold maxLen at hcm
  clear hr hne c66
  go_enter Try.func32, Try.ntmps32
  go_wp2_with fail
  refine Calls.mono HIX.out ?_
  rintro e w1 ⟨q, rfl, hb1, hq⟩
  have HB1 : Hid (Below w.heap.size w w1) := hb1
  clear hb1 HIX
  rcases hq with ⟨rfl, hall⟩ | ⟨i, rfl, hall, x, hx, hxd⟩
  · have HS : Hid (stay now l = l) := stay_all hall
    clear hall
    go_wp2_with fail
    go_ret
    refine ⟨_, rfl, ?_, fun _ h => h, Chg.ofBelow _ HB1.out⟩
    rw [HS.out]
    exact ownsRow_same HR.out (fun g' e => HB1.out.block g' (ownsRow_lt HR.out e).2)
  · have hil : i < l.length := (List.getElem?_eq_some_iff.1 hx).1
    obtain ⟨g, c, cur, hvv, hbg, hB, hnc2, hcm2, hcs, htk⟩ := own_open HR.out (by omega)
    cases hvv
    obtain ⟨n, hn⟩ : ∃ n, n = l.length := ⟨_, rfl⟩
    have HN : Hid (n = l.length) := hn
    have HI0 : Hid (DI base g n cap now l w (i + 1) i w1) := by
      have hs := stay_step (now := now) hx
      rw [if_pos hxd, stay_all hall] at hs
      refine ⟨⟨l, hn.symm, hs.symm, rfl, ?_⟩, by rw [hs, List.length_take]; omega, Chg.ofBelow _ HB1.out⟩
      rw [hn]
      exact ownsRow_same HR.out (fun g' e => HB1.out.block g' (ownsRow_lt HR.out e).2)
    have HGW : Hid (whb ≠ g) := fun e => HNE.out g rfl e.symm
    have HGL : Hid (g < w.heap.size) := hB.lt
    have HWL : Hid (whb < w.heap.size) := World.block_lt_of_cell? w _ HC.out
    rw [← hn] at hlen hil hnc hnc2 ⊢
    clear hx hxd hall hB hcs htk hn HNE
    have hi6 : i ≤ 1000000 := by omega
    go_wp2_with fail
    rw [show (((i : Nat) : Int) == -1) = false from beq_eq_false_iff_ne.2 (by omega)]
    go_loopw [5, 6, 7] (fun s5 s6 _ wr => ∃ j k : Nat, j ≤ n ∧ k ≤ j ∧ s6 = .int .i64 j ∧ s5 = .int .i64 k ∧ DI base g n cap now l w j k wr) (fun _ s6 _ _ => n - (intOf s6).toNat)
    case atStart => exact ⟨i + 1, i, by omega, by omega, by go_num, rfl, HI0.out⟩
    case round =>
      obtain ⟨j, k, hj, hkj, rfl, rfl, hD⟩ := hrel
      clear HI0
      have HD : Hid (DI base g n cap now l w j k wr) := hD
      clear hD
      by_cases hlt : j < n
      · obtain ⟨x, hx⟩ : ∃ x, l[j]? = some x := ⟨l[j]'(by have := HN.out; omega), List.getElem?_eq_getElem _⟩
        obtain ⟨x0, x1, x2, x3⟩ := HD.out.cells hx
        obtain ⟨X, hX⟩ : ∃ X, X = wr.alloc (.cells #[.int .i64 x.due, .int .i64 x.num, .int .i64 x.kind, .int .i64 x.id] 50) := ⟨_, rfl⟩
        obtain ⟨bx, hbx⟩ : ∃ bx, bx = wr.heap.size := ⟨_, rfl⟩
        have hbX : Below wr.heap.size wr X := by rw [hX]; exact (Below.refl _ _).alloc (Nat.le_refl _) _
        have hBX : Blk X bx #[.int .i64 x.due, .int .i64 x.num, .int .i64 x.kind, .int .i64 x.id] 50 := by rw [hX, hbx]; exact heap_alloc_new wr _
        have c66X : X.cell? ⟨whb, 66, none⟩ = some (.int .i64 now) := by
          have h1 : wr.heap[whb]? = w.heap[whb]? := HD.out.chg.block whb HWL.out HGW.out
          have h2 : X.heap[whb]? = w.heap[whb]? := (hbX.block whb (Nat.lt_of_lt_of_le HWL.out HD.out.chg.size)).trans h1
          exact (World.cell?_of_block (w := w) (a := ⟨whb, 66, none⟩) h2).trans HC.out
        have HX : Hid (l[j]? = some x) := hx
        have HDU : Hid _ := isDue_any x whb now X c66X
        have HDX : Hid (DI base g n cap now l w j k X) := HD.out.more hbX
        have HBX : Hid (Blk X bx #[.int .i64 x.due, .int .i64 x.num, .int .i64 x.kind, .int .i64 x.id] 50) := hBX
        have b0 : X.cell? ⟨bx, 0, none⟩ = some (.int .i64 x.due) := hBX.cell 0
        have b1 : X.cell? ⟨bx, 1, none⟩ = some (.int .i64 x.num) := hBX.cell 1
        have b2 : X.cell? ⟨bx, 2, none⟩ = some (.int .i64 x.kind) := hBX.cell 2
        have b3 : X.cell? ⟨bx, 3, none⟩ = some (.int .i64 x.id) := hBX.cell 3
        clear hx hbX hBX c66X
        go_upto_region 8 with fail
        rw [← hX, ← hbx]
        clear hX hbx x0 x1 x2 x3 HD
        go_wp2_with fail
        refine Calls.mono HDU.out ?_
        rintro e w2 ⟨rfl, hb2⟩
        have HD2 : Hid (DI base g n cap now l w j k w2) := HDX.out.more hb2
        have HB2 : Hid (Blk w2 bx #[.int .i64 x.due, .int .i64 x.num, .int .i64 x.kind, .int .i64 x.id] 50) := Blk.below HBX.out hb2 (Blk.lt HBX.out)
        clear hb2 b0 b1 b2 b3 HDX HBX HDU
        by_cases hd : x.due = now
        · have HN2 : Hid (DI base g n cap now l w (j + 1) k w2) := HD2.out.skip HX.out hd
          rw [decide_eq_true hd]
          clear hd HD2 HB2 HX
          go_wp2_with fail
          go_roundw
          case rel => exact ⟨j + 1, k, by omega, by omega, by go_num, rfl, HN2.out⟩
          case measure => simp [intOf]; omega
        · have HN2 : Hid (DI base g n cap now l w (j + 1) (k + 1) ((((w2.setCell ⟨g, k * 4, none⟩ (.int .i64 x.due)).setCell ⟨g, k * 4 + 1, none⟩ (.int .i64 x.num)).setCell ⟨g, k * 4 + 2, none⟩ (.int .i64 x.kind)).setCell ⟨g, k * 4 + 3, none⟩ (.int .i64 x.id))) := HD2.out.put HX.out hd hkj hlt
          obtain ⟨y, ⟨y0, y1, y2, y3⟩, fz⟩ := HD2.out.room (show k < n by omega)
          have f0 := fz (k * 4)
          have f1 := fz (k * 4 + 1)
          have f2 := fz (k * 4 + 2)
          have f3 := fz (k * 4 + 3)
          have b0 : w2.cell? ⟨bx, 0, none⟩ = some (.int .i64 x.due) := HB2.out.cell 0
          have b1 : w2.cell? ⟨bx, 1, none⟩ = some (.int .i64 x.num) := HB2.out.cell 1
          have b2 : w2.cell? ⟨bx, 2, none⟩ = some (.int .i64 x.kind) := HB2.out.cell 2
          have b3 : w2.cell? ⟨bx, 3, none⟩ = some (.int .i64 x.id) := HB2.out.cell 3
          rw [decide_eq_false hd]
          clear hd HD2 HB2 HX fz
          go_wp2_with fail
          go_roundw
          case rel => exact ⟨j + 1, k + 1, by omega, by omega, by go_num, by go_num, HN2.out⟩
          case measure => simp [intOf]; omega
      · obtain rfl : j = n := by omega
        obtain ⟨R, hR1, hR2, hR3, hR4⟩ := HD.out.ex
        have hkk := HD.out.hk
        rw [List.take_of_length_le (Nat.le_of_eq HN.out.symm)] at hR2 hkk
        obtain ⟨g2, c2, cur2, hv2, hbg2, hB2, hnc3, hcm3, hcs2, htk2⟩ := own_open hR4 (by omega)
        cases hv2
        obtain ⟨ad, hsl, had⟩ := slice_tail 33 50 Try.underlying33 isz50 g 0 j cap k hkj hnc
        obtain ⟨w5, cur5, hcl, hB5, hs5, ht5, hc5⟩ := clear4 hB2 ad (k * 4) (j - k) (cap - k) (fun h => by rw [had (by omega), Nat.zero_add]) (by rw [hcs2]; omega)
        have hhd : ∀ w, (Instr.sliceAt 33 (.slice (some ⟨g, 0, none⟩) j cap) none (some (.int .i64 (k : Int))) none).run Try.prog w = .ok (.slice (some ⟨g, 0, none⟩) k cap) w := fun w => slice_head 33 50 Try.underlying33 isz50 _ j cap k (by omega) w
        have HF : Hid (w5.ownsRow base 50 4 (.slice (some ⟨g, 0, none⟩) k cap) (stay now l).length (flatT (stay now l))) := show World.ownsRow _ _ _ _ _ _ _ from by
          rw [← hkk]
          refine own_shut hkk.symm hbg2 hB5 (by omega) hcm3 (by rw [hs5]; exact hcs2) ?_
          rw [ht5 _ (Nat.le_refl _)]
          have e : cur2.toList.take (k * 4) = (cur2.toList.take (j * 4)).take (k * 4) := by rw [List.take_take, Nat.min_eq_left (by omega)]
          rw [e, htk2, ← hR2]
          unfold flatT
          exact flat_take Tm.row 4 (fun _ => rfl) R k
        have HCF : Hid (Chg (fun b => (Value.slice (some ⟨g, 0, none⟩) j cap).ownBlock = some b) w w5) := (HD.out.chg.trans hc5 (fun _ _ e => e)).mono (fun b _ e => by rw [e]; rfl)
        clear hR1 hR2 hR3 hR4 hkk hB2 hcs2 htk2 had hB5 hs5 ht5 hc5 HD
        go_wp2_with fail
        go_ret
        exact ⟨_, rfl, HF.out, fun _ h => h, HCF.out⟩
end Go.Proofs.Ytmnihombiabkgaa
