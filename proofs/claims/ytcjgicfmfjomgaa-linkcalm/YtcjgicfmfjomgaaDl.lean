import Derived.Test.YtcjgicfmfjomgaaTak
namespace Go.Proofs.Ytcjgicfmfjomgaa
open Go.RowKit Go.PlainAid Go.MapKept
set_option linter.unusedVariables false
set_option linter.unusedSimpArgs false
def over (cur : Array Value) (o : Nat) (cs : List Value) : Array Value := (cur.toList.take o ++ cs ++ cur.toList.drop (o + cs.length)).toArray
theorem over_size (cur : Array Value) (o : Nat) (cs : List Value) (h : o + cs.length ≤ cur.size) : (over cur o cs).size = cur.size := by
  simp [over]; omega
theorem over_take (cur : Array Value) (o n : Nat) (cs : List Value) (h1 : o ≤ cur.size) (h2 : o ≤ n) (h3 : n ≤ o + cs.length) : (over cur o cs).toList.take n = cur.toList.take o ++ cs.take (n - o) := by
  have hl : (cur.toList.take o).length = o := by simp; omega
  simp only [over, List.append_assoc]
  rw [List.take_append, hl, List.take_of_length_le (by rw [hl]; exact h2), List.take_append_of_le_length (by omega)]
theorem over_take_low (cur : Array Value) (o n : Nat) (cs : List Value) (h1 : o ≤ cur.size) (h2 : n ≤ o) : (over cur o cs).toList.take n = cur.toList.take n := by
  have hl : (cur.toList.take o).length = o := by simp; omega
  simp only [over, List.append_assoc]
  rw [List.take_append_of_le_length (by omega), List.take_take, Nat.min_eq_left h2]
theorem setRow_chg {w : World} {g : Nat} {cur cur' : Array Value} (h : Blk w g cur 41) : Chg (fun k => k = g) w (w.setRow g cur') ∧ Blk (w.setRow g cur') g cur' 41 := by
  refine ⟨⟨rfl, rfl, rfl, by simp [World.setRow], fun k hk hn => ?_⟩, setRow_heap _ _ _ _ 41 _ h⟩
  simp only [World.setRow]
  rw [Array.getElem?_modify, if_neg (fun e => hn e.symm)]
theorem isz41 : (Try.prog.info? 41).map (·.size) = some 1 := by kernel_rfl
theorem zero41 (w : World) : (zeroValue 41).run Try.prog w = .ok (.slice none 0 0) w := by kernel_rfl
theorem zc_len (m : Nat) : (Builtin.zeroCells (Value.slice none 0 0).cells m).toList.length = m := by
  simp [Builtin.zeroCells, Value.cells]
theorem zc_one (m : Nat) : ∀ u ∈ (Builtin.zeroCells (Value.slice none 0 0).cells m).toList, u.oneCell' = true := by
  intro u hu
  simp only [Builtin.zeroCells, Array.toList_map, List.mem_map] at hu
  obtain ⟨q, _, rfl⟩ := hu
  have h4 : (Value.slice none 0 0).cells = #[Value.slice none 0 0] := rfl
  rw [h4]
  show (#[Value.slice none 0 0][q % 1]!).oneCell' = true
  rw [Nat.mod_one]
  rfl
/-- 'clear' of data from a place on. -/
theorem clear1 {w : World} {g : Nat} {cur : Array Value} (hR : Blk w g cur 41) (ad : Addr) (o m c : Nat) (had : 0 < m → ad = ⟨g, o, none⟩) (hfit : o + m ≤ cur.size) :
    ∃ w' cur', (∀ ty, (Builtin.clear_ #[36] ty #[.slice (some ad) m c]).run Try.prog w = .ok (.tuple #[]) w') ∧ Blk w' g cur' 41 ∧ cur'.size = cur.size ∧ (∀ n, n ≤ o → cur'.toList.take n = cur.toList.take n) ∧ Chg (fun k => k = g) w w' := by
  by_cases h0 : 0 < m
  · have := had h0
    subst this
    have hl := zc_len m
    obtain ⟨zs, hzs⟩ : ∃ zs, zs = (Builtin.zeroCells (Value.slice none 0 0).cells m).toList := ⟨_, rfl⟩
    have h1 := zc_one m
    rw [← hzs] at hl h1
    have hst := run_storeCells_at Try.prog g o 41 zs 0 cur w hR (by omega) h1
    simp only [Nat.add_zero] at hst
    have hc := setRow_chg (cur' := over cur o zs) hR
    refine ⟨w.setRow g (over cur o zs), over cur o zs, fun ty => ?_, hc.2, over_size _ _ _ (by omega), fun n hn => over_take_low _ _ _ _ (by omega) hn, hc.1⟩
    obtain ⟨m', rfl⟩ : ∃ m', m = m' + 1 := ⟨m - 1, by omega⟩
    simp only [Builtin.clear_, List.getElem?_toArray, List.getElem?_cons_zero, Sem.run_bind, run_underlying Try.underlying36, Result.andThen_ok, Sem.run_pure, zero41, ← hzs, hst]
    rfl
  · obtain rfl : m = 0 := by omega
    refine ⟨w, cur, fun ty => ?_, hR, rfl, fun _ _ => rfl, Chg.refl _ _⟩
    simp only [Builtin.clear_, List.getElem?_toArray, List.getElem?_cons_zero, Sem.run_bind, run_underlying Try.underlying36, Result.andThen_ok, Sem.run_pure]
/-- A row of data, opened and shut. -/
theorem own_open {w : World} {base n : Nat} {v : Value} {l : List Value} (h : w.ownsRow base 41 1 v n l) (h0 : 0 < n) : ∃ g c cur, v = .slice (some ⟨g, 0, none⟩) n c ∧ base ≤ g ∧ Blk w g cur 41 ∧ n ≤ c ∧ c ≤ maxLen ∧ cur.size = c ∧ cur.toList.take n = l := by
  rcases h.2 with ⟨_, e⟩ | ⟨g, c, cur, rfl, hb, hg, hc, hm, hcs, htk⟩
  · omega
  · exact ⟨g, c, cur, rfl, hb, hg, hc, hm, by simpa using hcs, by simpa using htk⟩
theorem own_shut {w : World} {base n g c : Nat} {cur : Array Value} {l : List Value} (hl : l.length = n) (hb : base ≤ g) (hg : Blk w g cur 41) (hc : n ≤ c) (hm : c ≤ maxLen) (hcs : cur.size = c) (htk : cur.toList.take n = l) : w.ownsRow base 41 1 (.slice (some ⟨g, 0, none⟩) n c) n l :=
  ⟨by rw [hl, Nat.mul_one], Or.inr ⟨g, c, cur, rfl, hb, hg, hc, hm, by rw [Nat.mul_one]; exact hcs, by rw [Nat.mul_one]; exact htk⟩⟩
set_option maxRecDepth 100000 in
set_option maxHeartbeats 3200000 in
theorem delete_any {base : Nat} {v : Value} {l : List Value} {j : Nat} (w : World) (hr : w.ownsRow base 41 1 v l.length l) (hone : ∀ u ∈ l, u.oneCell' = true) (hlen : l.length ≤ 1000000) (hj : 1 ≤ j) (hjl : j ≤ l.length) :
    Calls Try.prog 57 #[v, .int .i64 0, .int .i64 (j : Int)] w fun r w' => ∃ v', r = .returned v' ∧ w'.ownsRow base 41 1 v' (l.drop j).length (l.drop j) ∧ v'.ownBlock = v.ownBlock ∧ Chg (fun k => v.ownBlock = some k) w w' := by
  obtain ⟨g, c, cur, rfl, hbg, hB, hnc, hcm, hcs, htk⟩ := own_open hr (by omega)
  unfold maxLen at hcm
  obtain ⟨n, hn⟩ : ∃ n, n = l.length := ⟨_, rfl⟩
  rw [← hn] at hlen hjl hnc htk ⊢
  have HN : Hid (n = l.length) := hn
  have HB : Hid (Blk w g cur 41) := hB
  have HCS : Hid (cur.size = c) := hcs
  have HTK : Hid (cur.toList.take n = l) := htk
  have HBG : Hid (base ≤ g) := hbg
  have HO : Hid (∀ u ∈ l, u.oneCell' = true) := hone
  clear hr hn hB hcs htk hbg hone
  go_enter Try.func57, Try.ntmps57
  go_upto_region 5 with fail
  rename_i K hK
  obtain ⟨ad, hsl, had⟩ := slice_tail 36 41 Try.underlying36 isz41 g 0 n c j hjl hnc
  have hsl' : ∀ w, (Instr.sliceAt 36 (.slice (some ⟨g, 0, none⟩) n c) (some (.int .i64 (j : Int))) none none).run Try.prog w = .ok (.slice (some ad) (n - j) (c - j)) w := hsl
  have hhd : ∀ w, (Instr.sliceAt 36 (.slice (some ⟨g, 0, none⟩) n c) none (some (.int .i64 0)) none).run Try.prog w = .ok (.slice (some ⟨g, 0, none⟩) 0 c) w := fun w => slice_head 36 41 Try.underlying36 isz41 _ n c 0 (by omega) w
  obtain ⟨ys, hys⟩ : ∃ ys, ys = l.drop j := ⟨_, rfl⟩
  have hyl : ys.length = n - j := by rw [hys, List.length_drop, ← HN.out]
  have hcell : ∀ wz : World, Blk wz g cur 41 → ∀ i u, ys[i]? = some u → wz.cell? (ad.add i) = some u := fun wz hz i u hu => by
    have hi : i < ys.length := (List.getElem?_eq_some_iff.1 hu).1
    have := had (by omega)
    subst this
    rw [addr_add, hz.cell]
    rw [hys, List.getElem?_drop, ← HTK.out, List.getElem?_take] at hu
    rw [if_pos (by omega)] at hu
    rw [show 0 + j * 1 + i = j + i by omega, ← Array.getElem?_toList]
    exact hu
  obtain ⟨i0, hi0, hz0, hz1, hz2⟩ := info_parts info41
  have hyo : ∀ u ∈ ys, u.oneCell' = true := fun u hu => HO.out u (by rw [hys] at hu; exact List.mem_of_mem_drop hu)
  have hap : ∀ wz : World, Blk wz g cur 41 → ∀ ty, (Builtin.append_ #[36, 36] ty #[.slice (some ⟨g, 0, none⟩) 0 c, .slice (some ad) (n - j) (c - j)]).run Try.prog wz = .ok (.slice (some ⟨g, 0, none⟩) (n - j) c) (wz.setRow g (over cur 0 ys)) := fun wz hz ty => by
    have := run_append_room (P := Try.prog) wz 36 ty 41 i0 Try.underlying36 hi0 g 0 c cur hz ad (n - j) (c - j) ys (by rw [hz1, Nat.mul_one]; exact hyl) (hcell wz hz) hyo (by omega) (by rw [hz1, HCS.out, hyl]; omega)
    rw [hz1, Nat.zero_add, Nat.zero_mul] at this
    exact this
  try rw [show ∀ a : Act, a.put none undef = a from fun _ => rfl]
  refine wp_region_mix (fun _ : World => True) (fun i => i == 6 || i == 99) 99 (by kernel_rfl) rfl (by kernel_rfl) (by kernel_rfl) (by kernel_rfl) ?_
  refine withFrP (N := 33) rfl ?_
  intro f0 F0 hff
  have e0 : f0 0 = Value.slice (some ⟨g, 0, none⟩) n c := hff 0
  have e1 : f0 1 = Value.int .i64 0 := hff 1
  have e2 : f0 2 = Value.int .i64 (j : Int) := hff 2
  clear hff
  have HCC : (fun _ : World => True) (({ w with drawn := w.drawn + 1 } : World)) := trivial
  have HD : Hid (Blk ({ w with drawn := w.drawn + 1 } : World) g cur 41) := HB.out
  refine lyp F0 rfl HCC rfl (by omega) (wanted_none rfl) (v := Value.slice (some ⟨g, 0, none⟩) n c) (fun wr hwr => by simp only [execOp, (F0.eval 0 (by omega)).trans (show _ = Value.slice (some ⟨g, 0, none⟩) n c from by simp [upd, e0, e1, e2])]; first | rfl | simp [go_sem]) fun Fp1 => ?_
  refine lyp Fp1 rfl HCC rfl (by omega) (wanted_none rfl) (v := Value.int .i64 0) (fun wr hwr => by simp only [execOp, (Fp1.eval 1 (by omega)).trans (show _ = Value.int .i64 0 from by simp [upd, e0, e1, e2])]; first | rfl | simp [go_sem]) fun Fp2 => ?_
  refine lyp Fp2 rfl HCC rfl (by omega) (wanted_none rfl) (v := Value.slice (some ⟨g, 0, none⟩) 0 c) (fun wr hwr => by simp only [execOp, Option.map_some, Option.map_none, (Fp2.eval 20 (by omega)).trans (show _ = Value.slice (some ⟨g, 0, none⟩) n c from by simp [upd, e0, e1, e2]), (Fp2.eval 21 (by omega)).trans (show _ = Value.int .i64 0 from by simp [upd, e0, e1, e2])]; simp only [Sem.run_bind, Sem.run_pure, Result.andThen_ok, hhd wr]; try rfl) fun Fp3 => ?_
  refine lyp Fp3 rfl HCC rfl (by omega) (wanted_none rfl) (v := Value.slice (some ⟨g, 0, none⟩) n c) (fun wr hwr => by simp only [execOp, (Fp3.eval 0 (by omega)).trans (show _ = Value.slice (some ⟨g, 0, none⟩) n c from by simp [upd, e0, e1, e2])]; first | rfl | simp [go_sem]) fun Fp4 => ?_
  refine lyp Fp4 rfl HCC rfl (by omega) (wanted_none rfl) (v := Value.int .i64 (j : Int)) (fun wr hwr => by simp only [execOp, (Fp4.eval 2 (by omega)).trans (show _ = Value.int .i64 (j : Int) from by simp [upd, e0, e1, e2])]; first | rfl | simp [go_sem]) fun Fp5 => ?_
  refine lyp Fp5 rfl HCC rfl (by omega) (wanted_none rfl) (v := Value.slice (some ad) (n - j) (c - j)) (fun wr hwr => by simp only [execOp, Option.map_some, Option.map_none, (Fp5.eval 23 (by omega)).trans (show _ = Value.slice (some ⟨g, 0, none⟩) n c from by simp [upd, e0, e1, e2]), (Fp5.eval 24 (by omega)).trans (show _ = Value.int .i64 (j : Int) from by simp [upd, e0, e1, e2])]; simp only [Sem.run_bind, Sem.run_pure, Result.andThen_ok, hsl' wr]; try rfl) fun Fp6 => ?_
  refine lep Fp6 rfl HCC rfl (by omega) (wanted_none rfl) (v := Value.slice (some ⟨g, 0, none⟩) (n - j) c) (w1 := World.setRow ({ w with drawn := w.drawn + 1 } : World) g (over cur 0 ys)) (by simp only [execOp, resolve, invoke, builtin, List.map_toArray, List.map_cons, List.map_nil, (Fp6.eval 22 (by omega)).trans (show _ = Value.slice (some ⟨g, 0, none⟩) 0 c from by simp [upd, e0, e1, e2]), (Fp6.eval 25 (by omega)).trans (show _ = Value.slice (some ad) (n - j) (c - j) from by simp [upd, e0, e1, e2])]; simp only [Sem.run_bind, Sem.run_pure, Result.andThen_ok, hap _ HD.out]; try rfl) fun Fp7 => ?_
  have HC6 : (fun _ : World => True) (World.setRow ({ w with drawn := w.drawn + 1 } : World) g (over cur 0 ys)) := trivial
  refine lyp Fp7 rfl HC6 rfl (by omega) (wanted_none rfl) (v := Value.slice (some ⟨g, 0, none⟩) (n - j) c) (fun wr hwr => by simp only [execOp, (Fp7.eval 26 (by omega)).trans (show _ = Value.slice (some ⟨g, 0, none⟩) (n - j) c from by simp [upd, e0, e1, e2])]; first | rfl | simp [go_sem]) fun Fp8 => ?_
  refine ⟨fun _ => HC6, ?_⟩
  refine hK _ _ ?_
  clear F0 Fp1 Fp2 Fp3 Fp4 Fp5 Fp6 Fp7 Fp8 e0 e1 e2 HCC HC6
  simp only [Act.put, List.setIfInBounds_toArray, List.set_cons_succ, List.set_cons_zero]
  obtain ⟨m, hm⟩ : ∃ m, m = n - j := ⟨_, rfl⟩
  rw [← hm]
  have hc1 := setRow_chg (cur' := over cur 0 ys) (w := ({ w with drawn := w.drawn + 1 } : World)) HB.out
  have hos : (over cur 0 ys).size = c := by rw [over_size _ _ _ (by rw [HCS.out, hyl]; omega)]; exact HCS.out
  have hot : (over cur 0 ys).toList.take m = l.drop j := by
    rw [over_take _ _ _ _ (by omega) (by omega) (by rw [hyl]; omega), show ys.take (m - 0) = ys from List.take_of_length_le (by rw [hyl]; omega), ← hys]
    simp
  have hel : (l.drop j).length = m := by rw [List.length_drop, ← HN.out]; omega
  obtain ⟨w2, cur2, hcl, hB2, hs2, ht2, hc2⟩ := clear1 hc1.2 ⟨g, m, none⟩ m (n - m) (c - m) (fun _ => rfl) (by rw [hos]; omega)
  have HF : Hid (w2.ownsRow base 41 1 (.slice (some ⟨g, 0, none⟩) m c) (l.drop j).length (l.drop j)) := show World.ownsRow _ _ _ _ _ _ _ from by rw [hel]; exact own_shut hel HBG.out hB2 (by omega) (by unfold maxLen; exact hcm) (by rw [hs2, hos]) (by rw [ht2 _ (Nat.le_refl _)]; exact hot)
  have HCF : Hid (Chg (fun k => (Value.slice (some ⟨g, 0, none⟩) n c).ownBlock = some k) w w2) := ((Chg.refl (fun k => k = g) w).drewN 1 |>.trans (hc1.1.trans hc2 (fun _ _ e => e)) (fun _ _ e => e)).mono (fun j _ e => by rw [e]; rfl)
  have hcl' : ∀ ty, (Builtin.clear_ #[36] ty #[.slice (some ⟨g, m, none⟩) (n - m) (c - m)]).run Try.prog (World.setRow ({ w with drawn := w.drawn + 1 } : World) g (over cur 0 ys)) = .ok (.tuple #[]) w2 := hcl
  generalize World.setRow ({ w with drawn := w.drawn + 1 } : World) g (over cur 0 ys) = W5 at *
  have hmle : m ≤ n := by omega
  have hmn0 : m < n := by omega
  clear hm hap hcell hyl hys hhd hsl' hsl had hc1 hos hot hel hcl hB2 hs2 ht2 hc2 hi0 hz0 hz1 hz2 hyo
  go_wp2_with fail
  go_ret
  exact ⟨_, rfl, HF.out, rfl, HCF.out⟩
end Go.Proofs.Ytcjgicfmfjomgaa
