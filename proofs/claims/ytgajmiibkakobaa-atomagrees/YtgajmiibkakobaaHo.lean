import Derived.Test.YtgajmiibkakobaaHth
import Derived.Test.YtgajmiibkakobaaArgs
import Derived.Test.YtgajmiibkakobaaPlan
import Derived.Deep.Cut
import Derived.Deep.CutBlock
namespace Go.Proofs.Ytgajmiibkakobaa
open Go.RowKit Go.PlainAid Go.MapKept
set_option linter.unusedVariables false
set_option linter.unusedSimpArgs false
theorem cell_below {w w' : World} {b o : Nat} {v : Value} (hb : Below w.heap.size w w') (h : w.cell? ⟨b, o, none⟩ = some v) : w'.cell? ⟨b, o, none⟩ = some v := (hb.cell (p := ⟨b, o, none⟩) (World.block_lt_of_cell? w _ h)).trans h
theorem RowAt.act {W : World} {b off : Nat} {x : AA} (h : RowAt W b off x.row) : W.cell? ⟨b, off, none⟩ = some (.int .i64 x.o.k) ∧ W.cell? ⟨b, off + 1, none⟩ = some (.string ⟨x.o.n.toArray⟩) ∧ W.cell? ⟨b, off + 2, none⟩ = some (.int .i64 x.o.a) ∧ W.cell? ⟨b, off + 3, none⟩ = some (.int .i64 x.o.b) ∧ W.cell? ⟨b, off + 4, none⟩ = some (.int .i64 x.q) :=
  ⟨h 0 _ rfl, h 1 _ rfl, h 2 _ rfl, h 3 _ rfl, h 4 _ rfl⟩
theorem mk1 {l v : Int} (h1 : 1 ≤ l) (h2 : l ≤ 1099511627776) (h3 : 1 ≤ v) (h4 : v ≤ l) : mapO 1 l v 0 [107] [] = ((0, 0), (l, v, 0, [])) := by
  unfold mapO
  have hb : opB 1 l v = true := by
    unfold opB
    rw [if_pos rfl]
    simp [amtB, valB]
    omega
  rw [if_neg (by rw [good_k, hb]; decide)]
  show (if (1 : Int) = 1 then createO l v else ((0, 100), (0, 0, 0, []))) = _
  rw [if_pos rfl]
  unfold createO
  rw [if_neg (by omega)]
theorem mk2 {l v a q : Int} (h : Nat) (h1 : 1 ≤ a) (h2 : a ≤ v) (h3 : v ≤ 1099511627776) (hq : 1 ≤ q) : mapO 4 a 1 q [107] [([107], ⟨[107], l, v, 0, some h, []⟩)] = ((q, 0), (l, v - a, 0 + a, [(q, a)])) := by
  unfold mapO
  have hb : opB 4 a 1 = true := by
    unfold opB
    rw [if_neg (by decide), if_neg (by decide), if_pos rfl]
    simp [amtB]
    omega
  rw [if_neg (by rw [good_k, hb]; decide)]
  show (if (4 : Int) = 1 then ((0, 101), (0, 0, 0, [])) else ctO 4 a 1 q ⟨[107], l, v, 0, some h, []⟩) = _
  rw [if_neg (by decide)]
  unfold ctO
  rw [if_neg (by decide), if_neg (by decide), if_pos rfl]
  unfold holdO
  rw [if_neg (by show ¬ v < a; omega), if_neg (by rintro (h | h); omega; simp [Gm.look] at h)]
  rfl
theorem doL_no {R : Out} {n : List UInt8} {hb' : Nat} {L : List (List UInt8 × Ct)} (h : R.1.2 ≠ 0) : doL R n hb' L = L := by unfold doL; rw [if_neg h]
set_option maxRecDepth 100000 in
set_option maxHeartbeats 6400000 in
theorem holds_law (z0 z1 z2 z3 z5 : Int) (h0 : In64 z0) (h1 : In64 z1) (h2 : In64 z2) (h3 : In64 z3) (h5 : In64 z5) (ao : Option Addr) (KN cap : Nat) (os : List AA) (w : World) (hl : os.length = KN)
    (hat : 0 < KN → ∃ b off, ao = some ⟨b, off, none⟩ ∧ ∀ i o, os[i]? = some o → RowAt w b (off + i * 5) o.row) (hok : ∀ o ∈ os, o.ok) (hcm : KN ≤ maxLen) :
    Calls Try.prog 3 #[.int .i64 z0, .int .i64 z1, .int .i64 z2, .int .i64 z3, .slice ao KN cap, .int .i64 z5] w fun e w' => e = .returned (.bool true) ∧ Below w.heap.size w w' := by
  unfold maxLen at hcm
  unfold In64 at h0 h1 h2 h3 h5
  have HAT : Hid (0 < KN → ∃ b off, ao = some ⟨b, off, none⟩ ∧ ∀ i o, os[i]? = some o → RowAt w b (off + i * 5) o.row) := hat
  have HOK : Hid (∀ o ∈ os, o.ok) := hok
  have HLE : Hid (os.length = KN) := hl
  have HW0 : Hid (∀ W, _) := fun W => within_1 z0 1099511627776 W h0.1 h0.2 (by decide) (by decide)
  have HW1 : Hid (∀ W (hi : Int), 1 ≤ hi → hi ≤ 4611686018427387904 → _) := fun W hi a b => within_1 z1 hi W h1.1 h1.2 a b
  have HW2 : Hid (∀ W (hi : Int), 1 ≤ hi → hi ≤ 4611686018427387904 → _) := fun W hi a b => within_1 z2 hi W h2.1 h2.2 a b
  have HW3 : Hid (∀ W, _) := fun W => within_1 z3 4611686018427387904 W h3.1 h3.2 (by decide) (by decide)
  have HW5 : Hid (∀ W, _) := fun W => within_02 z5 W h5.1 h5.2
  clear hat hok hl h0 h1 h2 h3 h5
  go_enter Try.func3, Try.ntmps3
  go_wp2_with fail
  refine Calls.mono (alive_any w) ?_
  rintro e9 w1 ⟨rfl, hb1⟩
  have HN : Hid _ := AX.new hb1
  clear hb1
  go_wp2_with fail
  refine Calls.mono HN.out ?_
  rintro e9 W1 ⟨ab, mb, rfl, hA⟩
  have HA : Hid (AX w ab mb [] W1) := hA
  clear hA HN
  go_wp2_with fail
  refine Calls.mono (HW0.out W1) ?_
  rintro e9 w9 ⟨lim, rfl, l1, l2, hw9⟩
  replace hw9 := hw9.symm
  subst hw9
  clear HW0
  go_wp2_with fail
  refine Calls.mono (HW1.out W1 lim l1 (by omega)) ?_
  rintro e9 w9 ⟨val, rfl, v1, v2, hw9⟩
  replace hw9 := hw9.symm
  subst hw9
  clear HW1
  go_wp2_with fail
  refine Calls.mono (HW2.out W1 val v1 (by omega)) ?_
  rintro e9 w9 ⟨am, rfl, a1, a2, hw9⟩
  replace hw9 := hw9.symm
  subst hw9
  clear HW2
  go_wp2_with fail
  refine Calls.mono (HW3.out W1) ?_
  rintro e9 w9 ⟨num, rfl, n1, n2, hw9⟩
  replace hw9 := hw9.symm
  subst hw9
  clear HW3
  go_wp2_with fail
  refine Calls.mono (HW5.out W1) ?_
  rintro e9 w9 ⟨en, rfl, e2, hw9⟩
  replace hw9 := hw9.symm
  subst hw9
  clear HW5
  have H1 : Hid _ := HA.out.do 1 lim val 0 [107] (by decide)
  clear HA
  go_wp2_with fail
  refine Calls.mono H1.out ?_
  rintro e9 w2 ⟨hh1, rfl, hA⟩
  simp only [mk1 l1 l2 v1 v2, doL, if_true, Gm.putM] at hA ⊢
  have H2 : Hid _ := hA.do 4 am 1 num [107] (by decide)
  clear hA H1
  go_wp2_with fail
  refine Calls.mono H2.out ?_
  rintro e9 w3 ⟨hh2, rfl, hA⟩
  simp only [mk2 hh1 a1 a2 (Int.le_trans v2 l2) n1, doL, if_true, Gm.putM] at hA ⊢
  have HI0 : Hid (AX w ab mb [([107], ⟨[107], lim, val - am, 0 + am, some hh2, [(num, am)]⟩)] w3) := hA
  have HH0 : Hid (Holds num am [([107], ⟨[107], lim, val - am, 0 + am, some hh2, [(num, am)]⟩)]) := ⟨_, rfl, (hA.am.ct _ (List.mem_singleton.2 rfl)).2.1, by simp [Gm.look]⟩
  have HAM : Hid (1 ≤ am ∧ am ≤ 1099511627776) := ⟨a1, by omega⟩
  have HNU : Hid (1 ≤ num) := n1
  clear hA H2 l1 l2 v1 v2 a1 a2 n1 n2
  generalize ([([107], ⟨[107], lim, val - am, 0 + am, some hh2, [(num, am)]⟩)] : List (List UInt8 × Ct)) = L0 at *
  go_upto_block 0 with fail
  go_cut [19, 20] from 78 to 117 (fun _ _ wc => ∃ L : List (List UInt8 × Ct), AX w ab mb L wc ∧ Holds num am L)
  case first =>
    go_wp2_with fail
    go_loopw [19, 20] (fun s19 _ wr => ∃ (j : Nat) (L : List (List UInt8 × Ct)), j ≤ KN ∧ j ≤ 300 ∧ s19 = .int .i64 j ∧ AX w ab mb L wr ∧ Holds num am L) (fun s19 _ _ => 300 - (intOf s19).toNat)
    case atStart => exact ⟨0, L0, Nat.zero_le _, Nat.zero_le _, rfl, HI0.out, HH0.out⟩
    case round =>
      obtain ⟨j, L, hjK, hj3, rfl, hA, hH⟩ := hrel
      have HA : Hid (AX w ab mb L wr) := hA
      have HH : Hid (Holds num am L) := hH
      clear hA hH HI0 HH0
      by_cases hlt : j < KN ∧ j < 300
      · obtain ⟨b, off, hao, hrow⟩ := HAT.out (by omega)
        subst hao
        have hjo : j < os.length := by rw [HLE.out]; exact hlt.1
        have hr := hrow j os[j] (List.getElem?_eq_getElem hjo)
        have hr2 := hr.below HA.out.bel (hr.lt (by show 0 < 5; decide))
        have hbl : b < w.heap.size := hr.lt (by show 0 < 5; decide)
        have hok := HOK.out os[j] (List.getElem_mem hjo)
        generalize os[j] = o at *
        obtain ⟨⟨ok, on, oa, ob_⟩, oq⟩ := o
        obtain ⟨c0, c1, c2, c3, c4⟩ := hr2.act
        obtain ⟨⟨hq1, hnl, hq2, hq3⟩, hq4⟩ := hok
        clear hq1 hq2 hq3 hq4
        simp only at c0 c1 c2 c3 c4 hnl
        have HNL : Hid (on.length ≤ 140737488355328) := show on.length ≤ 140737488355328 from by omega
        have hlt1 := hlt.1
        have hlt2 := hlt.2
        clear hrow hr hlt hr2 hnl hjo
        obtain ⟨xb, hxb⟩ : ∃ xb, xb = wr.heap.size := ⟨_, rfl⟩
        obtain ⟨X, hX⟩ : ∃ X, X = wr.alloc (.cells #[.int .i64 ok, .string ⟨on.toArray⟩, .int .i64 oa, .int .i64 ob_] 31) := ⟨_, rfl⟩
        have hbX : Below wr.heap.size wr X := by rw [hX]; exact (Below.refl _ _).alloc (Nat.le_refl _) _
        have BXB : Hid (Blk X xb #[.int .i64 ok, .string ⟨on.toArray⟩, .int .i64 oa, .int .i64 ob_] 31) := show Blk X xb #[.int .i64 ok, .string ⟨on.toArray⟩, .int .i64 oa, .int .i64 ob_] 31 from by rw [hX, hxb]; exact heap_alloc_new wr _
        have x4 : X.cell? ⟨b, off + j * 5 + 4, none⟩ = some (.int .i64 oq) := cell_below hbX c4
        have HAX : Hid (AX w ab mb L X) := HA.out.more hbX
        clear hbX
        go_upto_region 18 with fail
        rw [← hX, ← hxb]
        clear hX hxb c0 c1 c2 c3 c4
        have x0 : X.cell? ⟨xb, 0, none⟩ = some (.int .i64 ok) := BXB.out.cell 0
        have x2 : X.cell? ⟨xb, 2, none⟩ = some (.int .i64 oa) := BXB.out.cell 2
        by_cases hsk : (ok = 5 ∨ ok = 6 ∨ ok = 12) ∧ oa = num
        · obtain ⟨hk3, hoa⟩ := hsk
          subst hoa
          clear x4 hbl
          have hfin : Hid (AX w ab mb L X) := HAX.out
          rcases hk3 with rfl | rfl | rfl
          · go_wp2_with fail
            go_roundw
            case rel => exact ⟨j + 1, L, by omega, by omega, by go_num, HAX.out, HH.out⟩
            case measure => simp [intOf]; omega
          · go_wp2_with fail
            go_roundw
            case rel => exact ⟨j + 1, L, by omega, by omega, by go_num, HAX.out, HH.out⟩
            case measure => simp [intOf]; omega
          · go_wp2_with fail
            go_roundw
            case rel => exact ⟨j + 1, L, by omega, by omega, by go_num, HAX.out, HH.out⟩
            case measure => simp [intOf]; omega
        · have HDO : Hid (∀ V, Below X.heap.size X V → Calls Try.prog 12 #[.pointer (some ⟨ab, 0, none⟩), .agg #[.int .i64 ok, .string ⟨on.toArray⟩, .int .i64 oa, .int .i64 ob_], .int .i64 oq] V fun e w' => ∃ hb', e = .returned (.tuple #[.int .i64 (mapO ok oa ob_ oq on L).1.1, .int .i64 (mapO ok oa ob_ oq on L).1.2]) ∧ AX w ab mb (doL (mapO ok oa ob_ oq on L) on hb' L) w') := fun V hV => (HAX.out.more hV).do ok oa ob_ oq on HNL.out
          have HNX : Hid (∀ hb', Holds num am (doL (mapO ok oa ob_ oq on L) on hb' L)) := fun hb' => holds_do HH.out (fun p hp => (HAX.out.am.ct p hp).2.1) ok oa ob_ oq on hb' hsk
          by_cases hk3 : ok = 5 ∨ ok = 6 ∨ ok = 12
          · have hoa : (oa == num) = false := by rw [beq_eq_false_iff_ne]; exact fun e => hsk ⟨hk3, e⟩
            clear hsk
            rcases hk3 with rfl | rfl | rfl
            · clear hbl
              go_wp2_with fail
              rename_i K hK
              try rw [show ∀ a : Act, a.put none undef = a from fun _ => rfl]
              refine wp_region_mix (fun wq => Blk wq xb #[.int .i64 5, .string ⟨on.toArray⟩, .int .i64 oa, .int .i64 ob_] 31 ∧ wq.cell? ⟨b, off + j * 5 + 4, none⟩ = some (.int .i64 oq)) (fun i => i == 7) 7 (by kernel_rfl) rfl (by kernel_rfl) (by kernel_rfl) (by kernel_rfl) ?_
              refine withFrP (N := 207) rfl ?_
              intro f0 F0 hff
              have ee14 : f0 14 = Value.pointer (some ⟨ab, 0, none⟩) := hff 14
              have ee20 : f0 20 = Value.pointer (some ⟨xb, 0, none⟩) := hff 20
              have ee4 : f0 4 = Value.slice (some ⟨b, off, none⟩) KN cap := hff 4
              have ee19 : f0 19 = Value.int .i64 (j : Nat) := hff 19
              clear hff
              have HCC : (fun wq => Blk wq xb #[.int .i64 5, .string ⟨on.toArray⟩, .int .i64 oa, .int .i64 ob_] 31 ∧ wq.cell? ⟨b, off + j * 5 + 4, none⟩ = some (.int .i64 oq)) (({ X with drawn := X.drawn + 1 } : World)) := ⟨BXB.out, x4⟩
              refine lyp F0 rfl HCC rfl (by omega) (wanted_none rfl) (v := Value.pointer (some ⟨ab, 0, none⟩)) (fun wr hwr => by simp only [execOp, (F0.eval 14 (by omega)).trans (show _ = Value.pointer (some ⟨ab, 0, none⟩) from by simp [upd, ee14, ee20, ee4, ee19])]; first | rfl | simp [go_sem]) fun F1 => ?_
              refine lyp F1 rfl HCC rfl (by omega) (wanted_none rfl) (v := Value.agg #[.int .i64 5, .string ⟨on.toArray⟩, .int .i64 oa, .int .i64 ob_]) (fun wr hwr => by simp only [execOp, (F1.eval 20 (by omega)).trans (show _ = Value.pointer (some ⟨xb, 0, none⟩) from by simp [upd, ee14, ee20, ee4, ee19])]; simp [go_sem, show wr.cell? ⟨xb, 0, none⟩ = some (.int .i64 5) from hwr.1.cell 0, show wr.cell? ⟨xb, 1, none⟩ = some (.string ⟨on.toArray⟩) from hwr.1.cell 1, show wr.cell? ⟨xb, 2, none⟩ = some (.int .i64 oa) from hwr.1.cell 2, show wr.cell? ⟨xb, 3, none⟩ = some (.int .i64 ob_) from hwr.1.cell 3]) fun F2 => ?_
              refine lyp F2 rfl HCC rfl (by omega) (wanted_none rfl) (v := Value.slice (some ⟨b, off, none⟩) KN cap) (fun wr hwr => by simp only [execOp, (F2.eval 4 (by omega)).trans (show _ = Value.slice (some ⟨b, off, none⟩) KN cap from by simp [upd, ee14, ee20, ee4, ee19])]; first | rfl | simp [go_sem]) fun F3 => ?_
              refine lyp F3 rfl HCC rfl (by omega) (wanted_none rfl) (v := Value.int .i64 (j : Nat)) (fun wr hwr => by simp only [execOp, (F3.eval 19 (by omega)).trans (show _ = Value.int .i64 (j : Nat) from by simp [upd, ee14, ee20, ee4, ee19])]; first | rfl | simp [go_sem]) fun F4 => ?_
              refine lyp F4 rfl HCC rfl (by omega) (wanted_none rfl) (v := Value.pointer (some ⟨b, off + j * 5, none⟩)) (fun wr hwr => by simp only [execOp, (F4.eval 112 (by omega)).trans (show _ = Value.slice (some ⟨b, off, none⟩) KN cap from by simp [upd, ee14, ee20, ee4, ee19]), (F4.eval 113 (by omega)).trans (show _ = Value.int .i64 (j : Nat) from by simp [upd, ee14, ee20, ee4, ee19])]; simp only [Sem.run_bind, Sem.run_pure, Result.andThen_ok, idx_run 22 33 5 Try.underlying22 (by kernel_rfl) wr b off KN cap j (by omega)]; try rfl) fun F5 => ?_
              refine lyp F5 rfl HCC rfl (by omega) (wanted_none rfl) (v := Value.pointer (some ⟨b, off + j * 5 + 4, none⟩)) (fun wr hwr => by simp only [execOp, (F5.eval 114 (by omega)).trans (show _ = Value.pointer (some ⟨b, off + j * 5, none⟩) from by simp [upd, ee14, ee20, ee4, ee19])]; simp [go_sem]) fun F6 => ?_
              refine lyp F6 rfl HCC rfl (by omega) (wanted_none rfl) (v := Value.int .i64 oq) (fun wr hwr => by simp only [execOp, (F6.eval 115 (by omega)).trans (show _ = Value.pointer (some ⟨b, off + j * 5 + 4, none⟩) from by simp [upd, ee14, ee20, ee4, ee19])]; simp [go_sem, hwr.2]) fun F7 => ?_
              refine lcp F7 rfl HCC rfl (by omega) (wanted_none rfl) (g := 12) (args := #[Value.pointer (some ⟨ab, 0, none⟩), Value.agg #[.int .i64 5, .string ⟨on.toArray⟩, .int .i64 oa, .int .i64 ob_], Value.int .i64 oq]) (by simp only [execOp, resolve, invoke, List.map_toArray, List.map_cons, List.map_nil, (F7.eval 110 (by omega)).trans (show _ = Value.pointer (some ⟨ab, 0, none⟩) from by simp [upd, ee14, ee20, ee4, ee19]), (F7.eval 111 (by omega)).trans (show _ = Value.agg #[.int .i64 5, .string ⟨on.toArray⟩, .int .i64 oa, .int .i64 ob_] from by simp [upd, ee14, ee20, ee4, ee19]), (F7.eval 116 (by omega)).trans (show _ = Value.int .i64 oq from by simp [upd, ee14, ee20, ee4, ee19])]; simp [go_sem, Act.eval]) (HDO.out (({ X with drawn := X.drawn + 1 } : World)) (Below.drew (Below.refl _ _))) ?_
              rintro e9 w2 ⟨hb', rfl, hA2⟩
              refine ⟨_, rfl, fun F8 => ?_⟩
              refine ⟨(fun h => absurd h (by decide)), ?_⟩
              refine hK _ _ ?_
              clear F0 F1 F2 F3 F4 F5 F6 F7 F8 ee14 ee20 ee4 ee19 HCC
              simp only [Act.put, List.setIfInBounds_toArray, List.set_cons_succ, List.set_cons_zero]
              have HFA : Hid (_ ∧ _) := And.intro hA2 (HNX.out hb')
              clear hA2
              go_wp2_with fail
              go_roundw
              case rel => exact ⟨j + 1, _, by omega, by omega, by go_num, HFA.out.1, HFA.out.2⟩
              case measure => simp [intOf]; omega
            · clear hbl
              go_wp2_with fail
              rename_i K hK
              try rw [show ∀ a : Act, a.put none undef = a from fun _ => rfl]
              refine wp_region_mix (fun wq => Blk wq xb #[.int .i64 6, .string ⟨on.toArray⟩, .int .i64 oa, .int .i64 ob_] 31 ∧ wq.cell? ⟨b, off + j * 5 + 4, none⟩ = some (.int .i64 oq)) (fun i => i == 7) 7 (by kernel_rfl) rfl (by kernel_rfl) (by kernel_rfl) (by kernel_rfl) ?_
              refine withFrP (N := 207) rfl ?_
              intro f0 F0 hff
              have ee14 : f0 14 = Value.pointer (some ⟨ab, 0, none⟩) := hff 14
              have ee20 : f0 20 = Value.pointer (some ⟨xb, 0, none⟩) := hff 20
              have ee4 : f0 4 = Value.slice (some ⟨b, off, none⟩) KN cap := hff 4
              have ee19 : f0 19 = Value.int .i64 (j : Nat) := hff 19
              clear hff
              have HCC : (fun wq => Blk wq xb #[.int .i64 6, .string ⟨on.toArray⟩, .int .i64 oa, .int .i64 ob_] 31 ∧ wq.cell? ⟨b, off + j * 5 + 4, none⟩ = some (.int .i64 oq)) (({ X with drawn := X.drawn + 1 } : World)) := ⟨BXB.out, x4⟩
              refine lyp F0 rfl HCC rfl (by omega) (wanted_none rfl) (v := Value.pointer (some ⟨ab, 0, none⟩)) (fun wr hwr => by simp only [execOp, (F0.eval 14 (by omega)).trans (show _ = Value.pointer (some ⟨ab, 0, none⟩) from by simp [upd, ee14, ee20, ee4, ee19])]; first | rfl | simp [go_sem]) fun F1 => ?_
              refine lyp F1 rfl HCC rfl (by omega) (wanted_none rfl) (v := Value.agg #[.int .i64 6, .string ⟨on.toArray⟩, .int .i64 oa, .int .i64 ob_]) (fun wr hwr => by simp only [execOp, (F1.eval 20 (by omega)).trans (show _ = Value.pointer (some ⟨xb, 0, none⟩) from by simp [upd, ee14, ee20, ee4, ee19])]; simp [go_sem, show wr.cell? ⟨xb, 0, none⟩ = some (.int .i64 6) from hwr.1.cell 0, show wr.cell? ⟨xb, 1, none⟩ = some (.string ⟨on.toArray⟩) from hwr.1.cell 1, show wr.cell? ⟨xb, 2, none⟩ = some (.int .i64 oa) from hwr.1.cell 2, show wr.cell? ⟨xb, 3, none⟩ = some (.int .i64 ob_) from hwr.1.cell 3]) fun F2 => ?_
              refine lyp F2 rfl HCC rfl (by omega) (wanted_none rfl) (v := Value.slice (some ⟨b, off, none⟩) KN cap) (fun wr hwr => by simp only [execOp, (F2.eval 4 (by omega)).trans (show _ = Value.slice (some ⟨b, off, none⟩) KN cap from by simp [upd, ee14, ee20, ee4, ee19])]; first | rfl | simp [go_sem]) fun F3 => ?_
              refine lyp F3 rfl HCC rfl (by omega) (wanted_none rfl) (v := Value.int .i64 (j : Nat)) (fun wr hwr => by simp only [execOp, (F3.eval 19 (by omega)).trans (show _ = Value.int .i64 (j : Nat) from by simp [upd, ee14, ee20, ee4, ee19])]; first | rfl | simp [go_sem]) fun F4 => ?_
              refine lyp F4 rfl HCC rfl (by omega) (wanted_none rfl) (v := Value.pointer (some ⟨b, off + j * 5, none⟩)) (fun wr hwr => by simp only [execOp, (F4.eval 112 (by omega)).trans (show _ = Value.slice (some ⟨b, off, none⟩) KN cap from by simp [upd, ee14, ee20, ee4, ee19]), (F4.eval 113 (by omega)).trans (show _ = Value.int .i64 (j : Nat) from by simp [upd, ee14, ee20, ee4, ee19])]; simp only [Sem.run_bind, Sem.run_pure, Result.andThen_ok, idx_run 22 33 5 Try.underlying22 (by kernel_rfl) wr b off KN cap j (by omega)]; try rfl) fun F5 => ?_
              refine lyp F5 rfl HCC rfl (by omega) (wanted_none rfl) (v := Value.pointer (some ⟨b, off + j * 5 + 4, none⟩)) (fun wr hwr => by simp only [execOp, (F5.eval 114 (by omega)).trans (show _ = Value.pointer (some ⟨b, off + j * 5, none⟩) from by simp [upd, ee14, ee20, ee4, ee19])]; simp [go_sem]) fun F6 => ?_
              refine lyp F6 rfl HCC rfl (by omega) (wanted_none rfl) (v := Value.int .i64 oq) (fun wr hwr => by simp only [execOp, (F6.eval 115 (by omega)).trans (show _ = Value.pointer (some ⟨b, off + j * 5 + 4, none⟩) from by simp [upd, ee14, ee20, ee4, ee19])]; simp [go_sem, hwr.2]) fun F7 => ?_
              refine lcp F7 rfl HCC rfl (by omega) (wanted_none rfl) (g := 12) (args := #[Value.pointer (some ⟨ab, 0, none⟩), Value.agg #[.int .i64 6, .string ⟨on.toArray⟩, .int .i64 oa, .int .i64 ob_], Value.int .i64 oq]) (by simp only [execOp, resolve, invoke, List.map_toArray, List.map_cons, List.map_nil, (F7.eval 110 (by omega)).trans (show _ = Value.pointer (some ⟨ab, 0, none⟩) from by simp [upd, ee14, ee20, ee4, ee19]), (F7.eval 111 (by omega)).trans (show _ = Value.agg #[.int .i64 6, .string ⟨on.toArray⟩, .int .i64 oa, .int .i64 ob_] from by simp [upd, ee14, ee20, ee4, ee19]), (F7.eval 116 (by omega)).trans (show _ = Value.int .i64 oq from by simp [upd, ee14, ee20, ee4, ee19])]; simp [go_sem, Act.eval]) (HDO.out (({ X with drawn := X.drawn + 1 } : World)) (Below.drew (Below.refl _ _))) ?_
              rintro e9 w2 ⟨hb', rfl, hA2⟩
              refine ⟨_, rfl, fun F8 => ?_⟩
              refine ⟨(fun h => absurd h (by decide)), ?_⟩
              refine hK _ _ ?_
              clear F0 F1 F2 F3 F4 F5 F6 F7 F8 ee14 ee20 ee4 ee19 HCC
              simp only [Act.put, List.setIfInBounds_toArray, List.set_cons_succ, List.set_cons_zero]
              have HFA : Hid (_ ∧ _) := And.intro hA2 (HNX.out hb')
              clear hA2
              go_wp2_with fail
              go_roundw
              case rel => exact ⟨j + 1, _, by omega, by omega, by go_num, HFA.out.1, HFA.out.2⟩
              case measure => simp [intOf]; omega
            · clear hbl
              go_wp2_with fail
              rename_i K hK
              try rw [show ∀ a : Act, a.put none undef = a from fun _ => rfl]
              refine wp_region_mix (fun wq => Blk wq xb #[.int .i64 12, .string ⟨on.toArray⟩, .int .i64 oa, .int .i64 ob_] 31 ∧ wq.cell? ⟨b, off + j * 5 + 4, none⟩ = some (.int .i64 oq)) (fun i => i == 7) 7 (by kernel_rfl) rfl (by kernel_rfl) (by kernel_rfl) (by kernel_rfl) ?_
              refine withFrP (N := 207) rfl ?_
              intro f0 F0 hff
              have ee14 : f0 14 = Value.pointer (some ⟨ab, 0, none⟩) := hff 14
              have ee20 : f0 20 = Value.pointer (some ⟨xb, 0, none⟩) := hff 20
              have ee4 : f0 4 = Value.slice (some ⟨b, off, none⟩) KN cap := hff 4
              have ee19 : f0 19 = Value.int .i64 (j : Nat) := hff 19
              clear hff
              have HCC : (fun wq => Blk wq xb #[.int .i64 12, .string ⟨on.toArray⟩, .int .i64 oa, .int .i64 ob_] 31 ∧ wq.cell? ⟨b, off + j * 5 + 4, none⟩ = some (.int .i64 oq)) (({ X with drawn := X.drawn + 1 } : World)) := ⟨BXB.out, x4⟩
              refine lyp F0 rfl HCC rfl (by omega) (wanted_none rfl) (v := Value.pointer (some ⟨ab, 0, none⟩)) (fun wr hwr => by simp only [execOp, (F0.eval 14 (by omega)).trans (show _ = Value.pointer (some ⟨ab, 0, none⟩) from by simp [upd, ee14, ee20, ee4, ee19])]; first | rfl | simp [go_sem]) fun F1 => ?_
              refine lyp F1 rfl HCC rfl (by omega) (wanted_none rfl) (v := Value.agg #[.int .i64 12, .string ⟨on.toArray⟩, .int .i64 oa, .int .i64 ob_]) (fun wr hwr => by simp only [execOp, (F1.eval 20 (by omega)).trans (show _ = Value.pointer (some ⟨xb, 0, none⟩) from by simp [upd, ee14, ee20, ee4, ee19])]; simp [go_sem, show wr.cell? ⟨xb, 0, none⟩ = some (.int .i64 12) from hwr.1.cell 0, show wr.cell? ⟨xb, 1, none⟩ = some (.string ⟨on.toArray⟩) from hwr.1.cell 1, show wr.cell? ⟨xb, 2, none⟩ = some (.int .i64 oa) from hwr.1.cell 2, show wr.cell? ⟨xb, 3, none⟩ = some (.int .i64 ob_) from hwr.1.cell 3]) fun F2 => ?_
              refine lyp F2 rfl HCC rfl (by omega) (wanted_none rfl) (v := Value.slice (some ⟨b, off, none⟩) KN cap) (fun wr hwr => by simp only [execOp, (F2.eval 4 (by omega)).trans (show _ = Value.slice (some ⟨b, off, none⟩) KN cap from by simp [upd, ee14, ee20, ee4, ee19])]; first | rfl | simp [go_sem]) fun F3 => ?_
              refine lyp F3 rfl HCC rfl (by omega) (wanted_none rfl) (v := Value.int .i64 (j : Nat)) (fun wr hwr => by simp only [execOp, (F3.eval 19 (by omega)).trans (show _ = Value.int .i64 (j : Nat) from by simp [upd, ee14, ee20, ee4, ee19])]; first | rfl | simp [go_sem]) fun F4 => ?_
              refine lyp F4 rfl HCC rfl (by omega) (wanted_none rfl) (v := Value.pointer (some ⟨b, off + j * 5, none⟩)) (fun wr hwr => by simp only [execOp, (F4.eval 112 (by omega)).trans (show _ = Value.slice (some ⟨b, off, none⟩) KN cap from by simp [upd, ee14, ee20, ee4, ee19]), (F4.eval 113 (by omega)).trans (show _ = Value.int .i64 (j : Nat) from by simp [upd, ee14, ee20, ee4, ee19])]; simp only [Sem.run_bind, Sem.run_pure, Result.andThen_ok, idx_run 22 33 5 Try.underlying22 (by kernel_rfl) wr b off KN cap j (by omega)]; try rfl) fun F5 => ?_
              refine lyp F5 rfl HCC rfl (by omega) (wanted_none rfl) (v := Value.pointer (some ⟨b, off + j * 5 + 4, none⟩)) (fun wr hwr => by simp only [execOp, (F5.eval 114 (by omega)).trans (show _ = Value.pointer (some ⟨b, off + j * 5, none⟩) from by simp [upd, ee14, ee20, ee4, ee19])]; simp [go_sem]) fun F6 => ?_
              refine lyp F6 rfl HCC rfl (by omega) (wanted_none rfl) (v := Value.int .i64 oq) (fun wr hwr => by simp only [execOp, (F6.eval 115 (by omega)).trans (show _ = Value.pointer (some ⟨b, off + j * 5 + 4, none⟩) from by simp [upd, ee14, ee20, ee4, ee19])]; simp [go_sem, hwr.2]) fun F7 => ?_
              refine lcp F7 rfl HCC rfl (by omega) (wanted_none rfl) (g := 12) (args := #[Value.pointer (some ⟨ab, 0, none⟩), Value.agg #[.int .i64 12, .string ⟨on.toArray⟩, .int .i64 oa, .int .i64 ob_], Value.int .i64 oq]) (by simp only [execOp, resolve, invoke, List.map_toArray, List.map_cons, List.map_nil, (F7.eval 110 (by omega)).trans (show _ = Value.pointer (some ⟨ab, 0, none⟩) from by simp [upd, ee14, ee20, ee4, ee19]), (F7.eval 111 (by omega)).trans (show _ = Value.agg #[.int .i64 12, .string ⟨on.toArray⟩, .int .i64 oa, .int .i64 ob_] from by simp [upd, ee14, ee20, ee4, ee19]), (F7.eval 116 (by omega)).trans (show _ = Value.int .i64 oq from by simp [upd, ee14, ee20, ee4, ee19])]; simp [go_sem, Act.eval]) (HDO.out (({ X with drawn := X.drawn + 1 } : World)) (Below.drew (Below.refl _ _))) ?_
              rintro e9 w2 ⟨hb', rfl, hA2⟩
              refine ⟨_, rfl, fun F8 => ?_⟩
              refine ⟨(fun h => absurd h (by decide)), ?_⟩
              refine hK _ _ ?_
              clear F0 F1 F2 F3 F4 F5 F6 F7 F8 ee14 ee20 ee4 ee19 HCC
              simp only [Act.put, List.setIfInBounds_toArray, List.set_cons_succ, List.set_cons_zero]
              have HFA : Hid (_ ∧ _) := And.intro hA2 (HNX.out hb')
              clear hA2
              go_wp2_with fail
              go_roundw
              case rel => exact ⟨j + 1, _, by omega, by omega, by go_num, HFA.out.1, HFA.out.2⟩
              case measure => simp [intOf]; omega
          · have e5 : (ok == 5) = false := by rw [beq_eq_false_iff_ne]; omega
            have e6 : (ok == 6) = false := by rw [beq_eq_false_iff_ne]; omega
            have e12 : (ok == 12) = false := by rw [beq_eq_false_iff_ne]; omega
            clear hsk hk3
            clear hbl
            go_wp2_with fail
            rename_i K hK
            try rw [show ∀ a : Act, a.put none undef = a from fun _ => rfl]
            refine wp_region_mix (fun wq => Blk wq xb #[.int .i64 ok, .string ⟨on.toArray⟩, .int .i64 oa, .int .i64 ob_] 31 ∧ wq.cell? ⟨b, off + j * 5 + 4, none⟩ = some (.int .i64 oq)) (fun i => i == 7) 7 (by kernel_rfl) rfl (by kernel_rfl) (by kernel_rfl) (by kernel_rfl) ?_
            refine withFrP (N := 207) rfl ?_
            intro f0 F0 hff
            have ee14 : f0 14 = Value.pointer (some ⟨ab, 0, none⟩) := hff 14
            have ee20 : f0 20 = Value.pointer (some ⟨xb, 0, none⟩) := hff 20
            have ee4 : f0 4 = Value.slice (some ⟨b, off, none⟩) KN cap := hff 4
            have ee19 : f0 19 = Value.int .i64 (j : Nat) := hff 19
            clear hff
            have HCC : (fun wq => Blk wq xb #[.int .i64 ok, .string ⟨on.toArray⟩, .int .i64 oa, .int .i64 ob_] 31 ∧ wq.cell? ⟨b, off + j * 5 + 4, none⟩ = some (.int .i64 oq)) (({ X with drawn := X.drawn + 1 } : World)) := ⟨BXB.out, x4⟩
            refine lyp F0 rfl HCC rfl (by omega) (wanted_none rfl) (v := Value.pointer (some ⟨ab, 0, none⟩)) (fun wr hwr => by simp only [execOp, (F0.eval 14 (by omega)).trans (show _ = Value.pointer (some ⟨ab, 0, none⟩) from by simp [upd, ee14, ee20, ee4, ee19])]; first | rfl | simp [go_sem]) fun F1 => ?_
            refine lyp F1 rfl HCC rfl (by omega) (wanted_none rfl) (v := Value.agg #[.int .i64 ok, .string ⟨on.toArray⟩, .int .i64 oa, .int .i64 ob_]) (fun wr hwr => by simp only [execOp, (F1.eval 20 (by omega)).trans (show _ = Value.pointer (some ⟨xb, 0, none⟩) from by simp [upd, ee14, ee20, ee4, ee19])]; simp [go_sem, show wr.cell? ⟨xb, 0, none⟩ = some (.int .i64 ok) from hwr.1.cell 0, show wr.cell? ⟨xb, 1, none⟩ = some (.string ⟨on.toArray⟩) from hwr.1.cell 1, show wr.cell? ⟨xb, 2, none⟩ = some (.int .i64 oa) from hwr.1.cell 2, show wr.cell? ⟨xb, 3, none⟩ = some (.int .i64 ob_) from hwr.1.cell 3]) fun F2 => ?_
            refine lyp F2 rfl HCC rfl (by omega) (wanted_none rfl) (v := Value.slice (some ⟨b, off, none⟩) KN cap) (fun wr hwr => by simp only [execOp, (F2.eval 4 (by omega)).trans (show _ = Value.slice (some ⟨b, off, none⟩) KN cap from by simp [upd, ee14, ee20, ee4, ee19])]; first | rfl | simp [go_sem]) fun F3 => ?_
            refine lyp F3 rfl HCC rfl (by omega) (wanted_none rfl) (v := Value.int .i64 (j : Nat)) (fun wr hwr => by simp only [execOp, (F3.eval 19 (by omega)).trans (show _ = Value.int .i64 (j : Nat) from by simp [upd, ee14, ee20, ee4, ee19])]; first | rfl | simp [go_sem]) fun F4 => ?_
            refine lyp F4 rfl HCC rfl (by omega) (wanted_none rfl) (v := Value.pointer (some ⟨b, off + j * 5, none⟩)) (fun wr hwr => by simp only [execOp, (F4.eval 112 (by omega)).trans (show _ = Value.slice (some ⟨b, off, none⟩) KN cap from by simp [upd, ee14, ee20, ee4, ee19]), (F4.eval 113 (by omega)).trans (show _ = Value.int .i64 (j : Nat) from by simp [upd, ee14, ee20, ee4, ee19])]; simp only [Sem.run_bind, Sem.run_pure, Result.andThen_ok, idx_run 22 33 5 Try.underlying22 (by kernel_rfl) wr b off KN cap j (by omega)]; try rfl) fun F5 => ?_
            refine lyp F5 rfl HCC rfl (by omega) (wanted_none rfl) (v := Value.pointer (some ⟨b, off + j * 5 + 4, none⟩)) (fun wr hwr => by simp only [execOp, (F5.eval 114 (by omega)).trans (show _ = Value.pointer (some ⟨b, off + j * 5, none⟩) from by simp [upd, ee14, ee20, ee4, ee19])]; simp [go_sem]) fun F6 => ?_
            refine lyp F6 rfl HCC rfl (by omega) (wanted_none rfl) (v := Value.int .i64 oq) (fun wr hwr => by simp only [execOp, (F6.eval 115 (by omega)).trans (show _ = Value.pointer (some ⟨b, off + j * 5 + 4, none⟩) from by simp [upd, ee14, ee20, ee4, ee19])]; simp [go_sem, hwr.2]) fun F7 => ?_
            refine lcp F7 rfl HCC rfl (by omega) (wanted_none rfl) (g := 12) (args := #[Value.pointer (some ⟨ab, 0, none⟩), Value.agg #[.int .i64 ok, .string ⟨on.toArray⟩, .int .i64 oa, .int .i64 ob_], Value.int .i64 oq]) (by simp only [execOp, resolve, invoke, List.map_toArray, List.map_cons, List.map_nil, (F7.eval 110 (by omega)).trans (show _ = Value.pointer (some ⟨ab, 0, none⟩) from by simp [upd, ee14, ee20, ee4, ee19]), (F7.eval 111 (by omega)).trans (show _ = Value.agg #[.int .i64 ok, .string ⟨on.toArray⟩, .int .i64 oa, .int .i64 ob_] from by simp [upd, ee14, ee20, ee4, ee19]), (F7.eval 116 (by omega)).trans (show _ = Value.int .i64 oq from by simp [upd, ee14, ee20, ee4, ee19])]; simp [go_sem, Act.eval]) (HDO.out (({ X with drawn := X.drawn + 1 } : World)) (Below.drew (Below.refl _ _))) ?_
            rintro e9 w2 ⟨hb', rfl, hA2⟩
            refine ⟨_, rfl, fun F8 => ?_⟩
            refine ⟨(fun h => absurd h (by decide)), ?_⟩
            refine hK _ _ ?_
            clear F0 F1 F2 F3 F4 F5 F6 F7 F8 ee14 ee20 ee4 ee19 HCC
            simp only [Act.put, List.setIfInBounds_toArray, List.set_cons_succ, List.set_cons_zero]
            have HFA : Hid (_ ∧ _) := And.intro hA2 (HNX.out hb')
            clear hA2
            go_wp2_with fail
            go_roundw
            case rel => exact ⟨j + 1, _, by omega, by omega, by go_num, HFA.out.1, HFA.out.2⟩
            case measure => simp [intOf]; omega
      · have hjm : ¬ j < KN ∨ ¬ j < 300 := by omega
        clear hlt
        by_cases hj2 : j < KN
        · have hj4 : ¬ j < 300 := by omega
          clear hjm
          go_wp2_with fail
          go_meet
          case rel => exact ⟨L, HA.out, HH.out⟩
        · clear hjm
          go_wp2_with fail
          go_meet
          case rel => exact ⟨L, HA.out, HH.out⟩
  case rest =>
    have ix0 : ∀ W : World, (Instr.index 36 (.agg #[.int .i64 5, .int .i64 6, .int .i64 12]) (.int .i64 0)).run Try.prog W = .ok (.int .i64 5) W := fun W => by kernel_rfl
    have ix1 : ∀ W : World, (Instr.index 36 (.agg #[.int .i64 5, .int .i64 6, .int .i64 12]) (.int .i64 1)).run Try.prog W = .ok (.int .i64 6) W := fun W => by kernel_rfl
    have ix2 : ∀ W : World, (Instr.index 36 (.agg #[.int .i64 5, .int .i64 6, .int .i64 12]) (.int .i64 2)).run Try.prog W = .ok (.int .i64 12) W := fun W => by kernel_rfl
    obtain ⟨L, hA, hH⟩ := hcut
    clear HI0 HH0
    obtain ⟨c, hlk, hok, hhl⟩ := hH
    have hcO : ctOf [107] L = c := by unfold ctOf; rw [hlk]; rfl
    have HP : Hid _ := hA.peek [107]
    rw [hcO] at HP
    obtain ⟨b1, b2⟩ := hok.lim
    have b3 := hok.val
    have b4 := hok.sum
    have b5 := hok.heldnn
    have b6 : am ≤ c.held := by have := (hok.amt num).2; unfold amt at this; rw [hhl] at this; exact this
    obtain ⟨b7, b8⟩ := HAM.out
    have HLK : Hid (Gm.look [107] L = some c) := hlk
    have HHL : Hid (Gm.look num c.H = some am) := hhl
    clear hlk hhl hok hcO hA
    go_wp2_with fail
    refine Calls.mono HP.out ?_
    rintro e9 w4 ⟨rfl, hA⟩
    have HA4 : Hid (AX w ab mb L w4) := hA
    clear hA HP
    rcases (show en = 0 ∨ en = 1 ∨ en = 2 by omega) with rfl | rfl | rfl
    · have hm : mapO 5 num 0 0 [107] L = ((am, 0), (c.lim, c.val, c.held - am, Gm.putM num 0 c.H)) := by rw [holds_end HLK.out HHL.out (by omega) HNU.out 5 (by decide) 0]; rfl
      have H3 : Hid _ := HA4.out.do 5 num 0 0 [107] (by decide)
      rw [hm] at H3
      simp only at H3
      clear HA4
      go_wp2_with fail
      refine Calls.mono H3.out ?_
      rintro e9 w5 ⟨hh3, rfl, hA⟩
      unfold doL at hA
      rw [if_pos rfl] at hA
      simp only at hA
      obtain ⟨c1, hc1⟩ : ∃ c1 : Ct, c1 = ⟨[107], c.lim, c.val, c.held - am, some hh3, Gm.putM num 0 c.H⟩ := ⟨_, rfl⟩
      rw [← hc1] at hA
      obtain ⟨L1, hL1⟩ : ∃ L1, L1 = Gm.putM [107] c1 L := ⟨_, rfl⟩
      rw [← hL1] at hA
      have hlk1 : Gm.look [107] L1 = some c1 := by rw [hL1, look_put, if_pos rfl]
      have hH1 : Gm.look num c1.H = some 0 := by rw [hc1]; show Gm.look num (Gm.putM num 0 c.H) = some 0; rw [look_put, if_pos rfl]
      have hv1 : c1.val = c.val := by rw [hc1]
      have hd1 : c1.held = c.held - am := by rw [hc1]
      have HP2 : Hid _ := hA.peek [107]
      rw [show ctOf [107] L1 = c1 from by unfold ctOf; rw [hlk1]; rfl, hv1, hd1] at HP2
      have HGE : Hid (∀ k : Int, (k = 5 ∨ k = 6 ∨ k = 12) → (mapO k num 0 0 [107] L1).1 = (0, 70)) := fun k hk => gone_end hlk1 hH1 HNU.out k hk 0
      have HGH : Hid ((mapO 4 1 1 num [107] L1).1.2 = if c1.val < 1 then 60 else 1) := gone_hold hlk1 hH1
      rw [hv1] at HGH
      clear hc1 hL1 hlk1 hH1 hv1 hd1 hA hm H3
      go_wp2_with fail
      refine Calls.mono HP2.out ?_
      rintro e9 w6 ⟨rfl, hA⟩
      have HA6 : Hid (AX w ab mb L1 w6) := hA
      clear hA HP2
      have z1 : IntKind.i64.wrap (c.held - am) = c.held - am := wr (by omega) (by omega)
      have z2 : (am == 0) = false := by rw [beq_eq_false_iff_ne]; omega
      have z3 : IntKind.i64.wrap (c.val - c.val) = 0 := by rw [Int.sub_self]; rfl
      have z4 : IntKind.i64.wrap (am * 0) = 0 := by rw [Int.mul_zero]; rfl
      go_wp2_with fail
      refine Calls.mono (sign_any 5 w6) ?_
      rintro e9 w9 ⟨rfl, hw9⟩
      replace hw9 := hw9.symm
      subst hw9
      rw [show sgn 5 = 0 from rfl]
      go_wp2_with fail
      go_loopw [18, 30] (fun _ s30 wr => ∃ j : Nat, j ≤ 3 ∧ s30 = .int .i64 j ∧ AX w ab mb L1 wr) (fun _ s30 _ => 3 - (intOf s30).toNat)
      case atStart => exact ⟨0, by decide, rfl, HA6.out⟩
      case round =>
        obtain ⟨j, hj3, rfl, hA⟩ := hrel
        clear HA6
        rcases (show j = 0 ∨ j = 1 ∨ j = 2 ∨ j = 3 by omega) with rfl | rfl | rfl | rfl
        · have HG : Hid _ := HGE.out 5 (by decide)
          have H7 : Hid _ := hA.do 5 num 0 0 [107] (by decide)
          rw [HG.out] at H7
          simp only at H7
          have HDL : Hid (∀ x, doL (mapO 5 num 0 0 [107] L1) [107] x L1 = L1) := fun x => doL_no (by rw [HG.out]; decide)
          clear hA HG
          go_wp2_with fail
          refine Calls.mono H7.out ?_
          rintro e9 w7 ⟨hh7, rfl, hA⟩
          rw [HDL.out] at hA
          have HA7 : Hid (AX w ab mb L1 w7) := hA
          clear hA H7 HDL
          go_wp2_with fail
          go_roundw
          case rel => exact ⟨1, by decide, by go_num, HA7.out⟩
          case measure => simp [intOf]
        · have HG : Hid _ := HGE.out 6 (by decide)
          have H7 : Hid _ := hA.do 6 num 0 0 [107] (by decide)
          rw [HG.out] at H7
          simp only at H7
          have HDL : Hid (∀ x, doL (mapO 6 num 0 0 [107] L1) [107] x L1 = L1) := fun x => doL_no (by rw [HG.out]; decide)
          clear hA HG
          go_wp2_with fail
          refine Calls.mono H7.out ?_
          rintro e9 w7 ⟨hh7, rfl, hA⟩
          rw [HDL.out] at hA
          have HA7 : Hid (AX w ab mb L1 w7) := hA
          clear hA H7 HDL
          go_wp2_with fail
          go_roundw
          case rel => exact ⟨2, by decide, by go_num, HA7.out⟩
          case measure => simp [intOf]
        · have HG : Hid _ := HGE.out 12 (by decide)
          have H7 : Hid _ := hA.do 12 num 0 0 [107] (by decide)
          rw [HG.out] at H7
          simp only at H7
          have HDL : Hid (∀ x, doL (mapO 12 num 0 0 [107] L1) [107] x L1 = L1) := fun x => doL_no (by rw [HG.out]; decide)
          clear hA HG
          go_wp2_with fail
          refine Calls.mono H7.out ?_
          rintro e9 w7 ⟨hh7, rfl, hA⟩
          rw [HDL.out] at hA
          have HA7 : Hid (AX w ab mb L1 w7) := hA
          clear hA H7 HDL
          go_wp2_with fail
          go_roundw
          case rel => exact ⟨3, by decide, by go_num, HA7.out⟩
          case measure => simp [intOf]
        · by_cases hq : c.val < 1
          · have HG2 : Hid ((mapO 4 1 1 num [107] L1).1.2 = 60) := show _ = _ from by rw [HGH.out, if_pos hq]
            have H8 : Hid _ := hA.do 4 1 1 num [107] (by decide)
            rw [HG2.out] at H8
            clear hA
            go_wp2_with fail
            refine Calls.mono H8.out ?_
            rintro e9 w8 ⟨hh8, rfl, hA⟩
            have HB8 : Hid (Below w.heap.size w w8) := hA.bel
            clear hA H8
            go_wp2_with fail
            go_ret
            exact ⟨rfl, HB8.out⟩
          · have HG2 : Hid ((mapO 4 1 1 num [107] L1).1.2 = 1) := show _ = _ from by rw [HGH.out, if_neg hq]
            have H8 : Hid _ := hA.do 4 1 1 num [107] (by decide)
            rw [HG2.out] at H8
            clear hA
            go_wp2_with fail
            refine Calls.mono H8.out ?_
            rintro e9 w8 ⟨hh8, rfl, hA⟩
            have HB8 : Hid (Below w.heap.size w w8) := hA.bel
            clear hA H8
            go_wp2_with fail
            go_ret
            exact ⟨rfl, HB8.out⟩
    · have hm : mapO 6 num 0 0 [107] L = ((am, 0), (c.lim, c.val + am, c.held - am, Gm.putM num 0 c.H)) := by rw [holds_end HLK.out HHL.out (by omega) HNU.out 6 (by decide) 0]; rfl
      have H3 : Hid _ := HA4.out.do 6 num 0 0 [107] (by decide)
      rw [hm] at H3
      simp only at H3
      clear HA4
      go_wp2_with fail
      refine Calls.mono H3.out ?_
      rintro e9 w5 ⟨hh3, rfl, hA⟩
      unfold doL at hA
      rw [if_pos rfl] at hA
      simp only at hA
      obtain ⟨c1, hc1⟩ : ∃ c1 : Ct, c1 = ⟨[107], c.lim, c.val + am, c.held - am, some hh3, Gm.putM num 0 c.H⟩ := ⟨_, rfl⟩
      rw [← hc1] at hA
      obtain ⟨L1, hL1⟩ : ∃ L1, L1 = Gm.putM [107] c1 L := ⟨_, rfl⟩
      rw [← hL1] at hA
      have hlk1 : Gm.look [107] L1 = some c1 := by rw [hL1, look_put, if_pos rfl]
      have hH1 : Gm.look num c1.H = some 0 := by rw [hc1]; show Gm.look num (Gm.putM num 0 c.H) = some 0; rw [look_put, if_pos rfl]
      have hv1 : c1.val = c.val + am := by rw [hc1]
      have hd1 : c1.held = c.held - am := by rw [hc1]
      have HP2 : Hid _ := hA.peek [107]
      rw [show ctOf [107] L1 = c1 from by unfold ctOf; rw [hlk1]; rfl, hv1, hd1] at HP2
      have HGE : Hid (∀ k : Int, (k = 5 ∨ k = 6 ∨ k = 12) → (mapO k num 0 0 [107] L1).1 = (0, 70)) := fun k hk => gone_end hlk1 hH1 HNU.out k hk 0
      have HGH : Hid ((mapO 4 1 1 num [107] L1).1.2 = if c1.val < 1 then 60 else 1) := gone_hold hlk1 hH1
      rw [hv1] at HGH
      clear hc1 hL1 hlk1 hH1 hv1 hd1 hA hm H3
      go_wp2_with fail
      refine Calls.mono HP2.out ?_
      rintro e9 w6 ⟨rfl, hA⟩
      have HA6 : Hid (AX w ab mb L1 w6) := hA
      clear hA HP2
      have z1 : IntKind.i64.wrap (c.held - am) = c.held - am := wr (by omega) (by omega)
      have z2 : (am == 0) = false := by rw [beq_eq_false_iff_ne]; omega
      have z3 : IntKind.i64.wrap (c.val + am - c.val) = am := by rw [show c.val + am - c.val = am by omega]; exact wr (by omega) (by omega)
      have z4 : IntKind.i64.wrap (am * 1) = am := by rw [Int.mul_one]; exact wr (by omega) (by omega)
      have z5 : IntKind.i64.wrap am = am := wr (by omega) (by omega)
      go_wp2_with fail
      refine Calls.mono (sign_any 6 w6) ?_
      rintro e9 w9 ⟨rfl, hw9⟩
      replace hw9 := hw9.symm
      subst hw9
      rw [show sgn 6 = 1 from rfl]
      go_wp2_with fail
      go_loopw [18, 30] (fun _ s30 wr => ∃ j : Nat, j ≤ 3 ∧ s30 = .int .i64 j ∧ AX w ab mb L1 wr) (fun _ s30 _ => 3 - (intOf s30).toNat)
      case atStart => exact ⟨0, by decide, rfl, HA6.out⟩
      case round =>
        obtain ⟨j, hj3, rfl, hA⟩ := hrel
        clear HA6
        rcases (show j = 0 ∨ j = 1 ∨ j = 2 ∨ j = 3 by omega) with rfl | rfl | rfl | rfl
        · have HG : Hid _ := HGE.out 5 (by decide)
          have H7 : Hid _ := hA.do 5 num 0 0 [107] (by decide)
          rw [HG.out] at H7
          simp only at H7
          have HDL : Hid (∀ x, doL (mapO 5 num 0 0 [107] L1) [107] x L1 = L1) := fun x => doL_no (by rw [HG.out]; decide)
          clear hA HG
          go_wp2_with fail
          refine Calls.mono H7.out ?_
          rintro e9 w7 ⟨hh7, rfl, hA⟩
          rw [HDL.out] at hA
          have HA7 : Hid (AX w ab mb L1 w7) := hA
          clear hA H7 HDL
          go_wp2_with fail
          go_roundw
          case rel => exact ⟨1, by decide, by go_num, HA7.out⟩
          case measure => simp [intOf]
        · have HG : Hid _ := HGE.out 6 (by decide)
          have H7 : Hid _ := hA.do 6 num 0 0 [107] (by decide)
          rw [HG.out] at H7
          simp only at H7
          have HDL : Hid (∀ x, doL (mapO 6 num 0 0 [107] L1) [107] x L1 = L1) := fun x => doL_no (by rw [HG.out]; decide)
          clear hA HG
          go_wp2_with fail
          refine Calls.mono H7.out ?_
          rintro e9 w7 ⟨hh7, rfl, hA⟩
          rw [HDL.out] at hA
          have HA7 : Hid (AX w ab mb L1 w7) := hA
          clear hA H7 HDL
          go_wp2_with fail
          go_roundw
          case rel => exact ⟨2, by decide, by go_num, HA7.out⟩
          case measure => simp [intOf]
        · have HG : Hid _ := HGE.out 12 (by decide)
          have H7 : Hid _ := hA.do 12 num 0 0 [107] (by decide)
          rw [HG.out] at H7
          simp only at H7
          have HDL : Hid (∀ x, doL (mapO 12 num 0 0 [107] L1) [107] x L1 = L1) := fun x => doL_no (by rw [HG.out]; decide)
          clear hA HG
          go_wp2_with fail
          refine Calls.mono H7.out ?_
          rintro e9 w7 ⟨hh7, rfl, hA⟩
          rw [HDL.out] at hA
          have HA7 : Hid (AX w ab mb L1 w7) := hA
          clear hA H7 HDL
          go_wp2_with fail
          go_roundw
          case rel => exact ⟨3, by decide, by go_num, HA7.out⟩
          case measure => simp [intOf]
        · by_cases hq : c.val + am < 1
          · exact absurd hq (by omega)
          · have HG2 : Hid ((mapO 4 1 1 num [107] L1).1.2 = 1) := show _ = _ from by rw [HGH.out, if_neg hq]
            have H8 : Hid _ := hA.do 4 1 1 num [107] (by decide)
            rw [HG2.out] at H8
            clear hA
            go_wp2_with fail
            refine Calls.mono H8.out ?_
            rintro e9 w8 ⟨hh8, rfl, hA⟩
            have HB8 : Hid (Below w.heap.size w w8) := hA.bel
            clear hA H8
            go_wp2_with fail
            go_ret
            exact ⟨rfl, HB8.out⟩
    · have hm : mapO 12 num 0 0 [107] L = ((0, 0), (c.lim, c.val + am, c.held - am, Gm.putM num 0 c.H)) := by rw [holds_end HLK.out HHL.out (by omega) HNU.out 12 (by decide) 0]; rfl
      have H3 : Hid _ := HA4.out.do 12 num 0 0 [107] (by decide)
      rw [hm] at H3
      simp only at H3
      clear HA4
      go_wp2_with fail
      refine Calls.mono H3.out ?_
      rintro e9 w5 ⟨hh3, rfl, hA⟩
      unfold doL at hA
      rw [if_pos rfl] at hA
      simp only at hA
      obtain ⟨c1, hc1⟩ : ∃ c1 : Ct, c1 = ⟨[107], c.lim, c.val + am, c.held - am, some hh3, Gm.putM num 0 c.H⟩ := ⟨_, rfl⟩
      rw [← hc1] at hA
      obtain ⟨L1, hL1⟩ : ∃ L1, L1 = Gm.putM [107] c1 L := ⟨_, rfl⟩
      rw [← hL1] at hA
      have hlk1 : Gm.look [107] L1 = some c1 := by rw [hL1, look_put, if_pos rfl]
      have hH1 : Gm.look num c1.H = some 0 := by rw [hc1]; show Gm.look num (Gm.putM num 0 c.H) = some 0; rw [look_put, if_pos rfl]
      have hv1 : c1.val = c.val + am := by rw [hc1]
      have hd1 : c1.held = c.held - am := by rw [hc1]
      have HP2 : Hid _ := hA.peek [107]
      rw [show ctOf [107] L1 = c1 from by unfold ctOf; rw [hlk1]; rfl, hv1, hd1] at HP2
      have HGE : Hid (∀ k : Int, (k = 5 ∨ k = 6 ∨ k = 12) → (mapO k num 0 0 [107] L1).1 = (0, 70)) := fun k hk => gone_end hlk1 hH1 HNU.out k hk 0
      have HGH : Hid ((mapO 4 1 1 num [107] L1).1.2 = if c1.val < 1 then 60 else 1) := gone_hold hlk1 hH1
      rw [hv1] at HGH
      clear hc1 hL1 hlk1 hH1 hv1 hd1 hA hm H3
      go_wp2_with fail
      refine Calls.mono HP2.out ?_
      rintro e9 w6 ⟨rfl, hA⟩
      have HA6 : Hid (AX w ab mb L1 w6) := hA
      clear hA HP2
      have z1 : IntKind.i64.wrap (c.held - am) = c.held - am := wr (by omega) (by omega)
      have z2 : (am == 0) = false := by rw [beq_eq_false_iff_ne]; omega
      have z3 : IntKind.i64.wrap (c.val + am - c.val) = am := by rw [show c.val + am - c.val = am by omega]; exact wr (by omega) (by omega)
      have z4 : IntKind.i64.wrap (am * 1) = am := by rw [Int.mul_one]; exact wr (by omega) (by omega)
      have z5 : IntKind.i64.wrap am = am := wr (by omega) (by omega)
      go_wp2_with fail
      refine Calls.mono (sign_any 12 w6) ?_
      rintro e9 w9 ⟨rfl, hw9⟩
      replace hw9 := hw9.symm
      subst hw9
      rw [show sgn 12 = 1 from rfl]
      go_wp2_with fail
      go_loopw [18, 30] (fun _ s30 wr => ∃ j : Nat, j ≤ 3 ∧ s30 = .int .i64 j ∧ AX w ab mb L1 wr) (fun _ s30 _ => 3 - (intOf s30).toNat)
      case atStart => exact ⟨0, by decide, rfl, HA6.out⟩
      case round =>
        obtain ⟨j, hj3, rfl, hA⟩ := hrel
        clear HA6
        rcases (show j = 0 ∨ j = 1 ∨ j = 2 ∨ j = 3 by omega) with rfl | rfl | rfl | rfl
        · have HG : Hid _ := HGE.out 5 (by decide)
          have H7 : Hid _ := hA.do 5 num 0 0 [107] (by decide)
          rw [HG.out] at H7
          simp only at H7
          have HDL : Hid (∀ x, doL (mapO 5 num 0 0 [107] L1) [107] x L1 = L1) := fun x => doL_no (by rw [HG.out]; decide)
          clear hA HG
          go_wp2_with fail
          refine Calls.mono H7.out ?_
          rintro e9 w7 ⟨hh7, rfl, hA⟩
          rw [HDL.out] at hA
          have HA7 : Hid (AX w ab mb L1 w7) := hA
          clear hA H7 HDL
          go_wp2_with fail
          go_roundw
          case rel => exact ⟨1, by decide, by go_num, HA7.out⟩
          case measure => simp [intOf]
        · have HG : Hid _ := HGE.out 6 (by decide)
          have H7 : Hid _ := hA.do 6 num 0 0 [107] (by decide)
          rw [HG.out] at H7
          simp only at H7
          have HDL : Hid (∀ x, doL (mapO 6 num 0 0 [107] L1) [107] x L1 = L1) := fun x => doL_no (by rw [HG.out]; decide)
          clear hA HG
          go_wp2_with fail
          refine Calls.mono H7.out ?_
          rintro e9 w7 ⟨hh7, rfl, hA⟩
          rw [HDL.out] at hA
          have HA7 : Hid (AX w ab mb L1 w7) := hA
          clear hA H7 HDL
          go_wp2_with fail
          go_roundw
          case rel => exact ⟨2, by decide, by go_num, HA7.out⟩
          case measure => simp [intOf]
        · have HG : Hid _ := HGE.out 12 (by decide)
          have H7 : Hid _ := hA.do 12 num 0 0 [107] (by decide)
          rw [HG.out] at H7
          simp only at H7
          have HDL : Hid (∀ x, doL (mapO 12 num 0 0 [107] L1) [107] x L1 = L1) := fun x => doL_no (by rw [HG.out]; decide)
          clear hA HG
          go_wp2_with fail
          refine Calls.mono H7.out ?_
          rintro e9 w7 ⟨hh7, rfl, hA⟩
          rw [HDL.out] at hA
          have HA7 : Hid (AX w ab mb L1 w7) := hA
          clear hA H7 HDL
          go_wp2_with fail
          go_roundw
          case rel => exact ⟨3, by decide, by go_num, HA7.out⟩
          case measure => simp [intOf]
        · by_cases hq : c.val + am < 1
          · exact absurd hq (by omega)
          · have HG2 : Hid ((mapO 4 1 1 num [107] L1).1.2 = 1) := show _ = _ from by rw [HGH.out, if_neg hq]
            have H8 : Hid _ := hA.do 4 1 1 num [107] (by decide)
            rw [HG2.out] at H8
            clear hA
            go_wp2_with fail
            refine Calls.mono H8.out ?_
            rintro e9 w8 ⟨hh8, rfl, hA⟩
            have HB8 : Hid (Below w.heap.size w w8) := hA.bel
            clear hA H8
            go_wp2_with fail
            go_ret
            exact ⟨rfl, HB8.out⟩
end Go.Proofs.Ytgajmiibkakobaa
