import Derived.Test.YtmnihombiabkgaaBs
namespace Go.Proofs.Ytmnihombiabkgaa
open Go.RowKit Go.PlainAid Go.MapKept
set_option linter.unusedVariables false
set_option linter.unusedSimpArgs false
def over (cur : Array Value) (o : Nat) (cs : List Value) : Array Value := (cur.toList.take o ++ cs ++ cur.toList.drop (o + cs.length)).toArray
theorem over_size (cur : Array Value) (o : Nat) (cs : List Value) (h : o + cs.length ≤ cur.size) : (over cur o cs).size = cur.size := by
  simp [over]; omega
theorem over_take (cur : Array Value) (o n : Nat) (cs : List Value) (h1 : o ≤ cur.size) (h2 : o ≤ n) (h3 : n ≤ o + cs.length) : (over cur o cs).toList.take n = cur.toList.take o ++ cs.take (n - o) := by
  have hl : (cur.toList.take o).length = o := by simp; omega
  simp only [over, List.append_assoc]
  rw [List.take_append, hl, List.take_of_length_le (by rw [hl]; exact h2), List.take_append_of_le_length (by omega)]
theorem over_take_low (cur : Array Value) (o n : Nat) (cs : List Value) (h1 : o ≤ cur.size) (h2 : n ≤ o) : (over cur o cs).toList.take n = cur.toList.take n := by
  have hl : (cur.toList.take o).length = o := by simp; omega
  simp only [over, List.append_assoc]
  rw [List.take_append_of_le_length (by omega), List.take_take, Nat.min_eq_left h2]
theorem setRow_chg {w : World} {g : Nat} {cur cur' : Array Value} (h : Blk w g cur 50) : Chg (fun k => k = g) w (w.setRow g cur') ∧ Blk (w.setRow g cur') g cur' 50 := by
  refine ⟨⟨rfl, rfl, rfl, by simp [World.setRow], fun k hk hn => ?_⟩, setRow_heap _ _ _ _ 50 _ h⟩
  simp only [World.setRow]
  rw [Array.getElem?_modify, if_neg (fun e => hn e.symm)]
theorem zc_len (m : Nat) : (Builtin.zeroCells (Value.agg #[.int .i64 0, .int .i64 0, .int .i64 0, .int .i64 0]).cells m).toList.length = m * 4 := by
  simp [Builtin.zeroCells, Value.cells]
theorem zc_one (m : Nat) : ∀ u ∈ (Builtin.zeroCells (Value.agg #[.int .i64 0, .int .i64 0, .int .i64 0, .int .i64 0]).cells m).toList, u.oneCell' = true := by
  intro u hu
  simp only [Builtin.zeroCells, Array.toList_map, List.mem_map] at hu
  obtain ⟨q, _, rfl⟩ := hu
  have h4 : (Value.agg #[Value.int .i64 0, .int .i64 0, .int .i64 0, .int .i64 0]).cells = #[Value.int .i64 0, .int .i64 0, .int .i64 0, .int .i64 0] := rfl
  rw [h4]
  have : q % 4 = 0 ∨ q % 4 = 1 ∨ q % 4 = 2 ∨ q % 4 = 3 := by omega
  show (#[Value.int .i64 0, .int .i64 0, .int .i64 0, .int .i64 0][q % 4]!).oneCell' = true
  rcases this with e | e | e | e <;> rw [e] <;> rfl
/-- 'clear' of timers from a place on. -/
theorem clear4 {w : World} {g : Nat} {cur : Array Value} (hR : Blk w g cur 50) (ad : Addr) (o m c : Nat) (had : 0 < m → ad = ⟨g, o, none⟩) (hfit : o + m * 4 ≤ cur.size) :
    ∃ w' cur', (∀ ty, (Builtin.clear_ #[33] ty #[.slice (some ad) m c]).run Try.prog w = .ok (.tuple #[]) w') ∧ Blk w' g cur' 50 ∧ cur'.size = cur.size ∧ (∀ n, n ≤ o → cur'.toList.take n = cur.toList.take n) ∧ Chg (fun k => k = g) w w' := by
  by_cases h0 : 0 < m
  · have := had h0
    subst this
    have hl := zc_len m
    obtain ⟨zs, hzs⟩ : ∃ zs, zs = (Builtin.zeroCells (Value.agg #[.int .i64 0, .int .i64 0, .int .i64 0, .int .i64 0]).cells m).toList := ⟨_, rfl⟩
    have h1 := zc_one m
    rw [← hzs] at hl h1
    have hst := run_storeCells_at Try.prog g o 50 zs 0 cur w hR (by omega) h1
    simp only [Nat.add_zero] at hst
    have hc := setRow_chg (cur' := over cur o zs) hR
    refine ⟨w.setRow g (over cur o zs), over cur o zs, fun ty => ?_, hc.2, over_size _ _ _ (by omega), fun n hn => over_take_low _ _ _ _ (by omega) hn, hc.1⟩
    obtain ⟨m', rfl⟩ : ∃ m', m = m' + 1 := ⟨m - 1, by omega⟩
    simp only [Builtin.clear_, List.getElem?_toArray, List.getElem?_cons_zero, Sem.run_bind, run_underlying Try.underlying33, Result.andThen_ok, Sem.run_pure, zero50, ← hzs, hst]
    rfl
  · obtain rfl : m = 0 := by omega
    refine ⟨w, cur, fun ty => ?_, hR, rfl, fun _ _ => rfl, Chg.refl _ _⟩
    simp only [Builtin.clear_, List.getElem?_toArray, List.getElem?_cons_zero, Sem.run_bind, run_underlying Try.underlying33, Result.andThen_ok, Sem.run_pure]
/-- A row of timers, opened and shut. -/
theorem own_open {w : World} {base n : Nat} {v : Value} {l : List Tm} (h : w.ownsRow base 50 4 v n (flatT l)) (h0 : 0 < n) : ∃ g c cur, v = .slice (some ⟨g, 0, none⟩) n c ∧ base ≤ g ∧ Blk w g cur 50 ∧ n ≤ c ∧ c ≤ maxLen ∧ cur.size = c * 4 ∧ cur.toList.take (n * 4) = flatT l := by
  rcases h.2 with ⟨_, e⟩ | ⟨g, c, cur, rfl, hb, hg, hc, hm, hcs, htk⟩
  · omega
  · exact ⟨g, c, cur, rfl, hb, hg, hc, hm, hcs, htk⟩
theorem own_shut {w : World} {base n g c : Nat} {cur : Array Value} {l : List Tm} (hl : l.length = n) (hb : base ≤ g) (hg : Blk w g cur 50) (hc : n ≤ c) (hm : c ≤ maxLen) (hcs : cur.size = c * 4) (htk : cur.toList.take (n * 4) = flatT l) : w.ownsRow base 50 4 (.slice (some ⟨g, 0, none⟩) n c) n (flatT l) :=
  ⟨by rw [flatT_len, hl], Or.inr ⟨g, c, cur, rfl, hb, hg, hc, hm, hcs, htk⟩⟩
set_option maxRecDepth 100000 in
set_option maxHeartbeats 3200000 in
theorem delete_any {base : Nat} {v : Value} {l : List Tm} {i : Nat} (w : World) (hr : w.ownsRow base 50 4 v l.length (flatT l)) (hlen : l.length ≤ 1000000) (hil : i < l.length) :
    Calls Try.prog 23 #[v, .int .i64 i, .int .i64 ((i : Int) + 1)] w fun r w' => ∃ v', r = .returned v' ∧ w'.ownsRow base 50 4 v' (l.eraseIdx i).length (flatT (l.eraseIdx i)) ∧ v'.ownBlock = v.ownBlock ∧ Chg (fun k => v.ownBlock = some k) w w' := by
  obtain ⟨g, c, cur, rfl, hbg, hB, hnc, hcm, hcs, htk⟩ := own_open hr (by omega)
  unfold maxLen at hcm
  obtain ⟨n, hn⟩ : ∃ n, n = l.length := ⟨_, rfl⟩
  rw [← hn] at hlen hil hnc htk ⊢
  have HN : Hid (n = l.length) := hn
  have HB : Hid (Blk w g cur 50) := hB
  have HCS : Hid (cur.size = c * 4) := hcs
  have HTK : Hid (cur.toList.take (n * 4) = flatT l) := htk
  have HBG : Hid (base ≤ g) := hbg
  clear hr hn hB hcs htk hbg
  go_enter Try.func23, Try.ntmps23
  go_upto_region 5 with fail
  rename_i K hK
  obtain ⟨ad, hsl, had⟩ := slice_tail 33 50 Try.underlying33 isz50 g 0 n c (i + 1) (by omega) hnc
  have hsl' : ∀ w, (Instr.sliceAt 33 (.slice (some ⟨g, 0, none⟩) n c) (some (.int .i64 ((i : Int) + 1))) none none).run Try.prog w = .ok (.slice (some ad) (n - (i + 1)) (c - (i + 1))) w := fun w => by have := hsl w; simpa using this
  have hhd : ∀ w, (Instr.sliceAt 33 (.slice (some ⟨g, 0, none⟩) n c) none (some (.int .i64 (i : Int))) none).run Try.prog w = .ok (.slice (some ⟨g, 0, none⟩) i c) w := fun w => slice_head 33 50 Try.underlying33 isz50 _ n c i (by omega) w
  obtain ⟨ys, hys⟩ : ∃ ys, ys = flatT (l.drop (i + 1)) := ⟨_, rfl⟩
  have hyd : ys = (flatT l).drop ((i + 1) * 4) := by rw [hys]; unfold flatT; rw [flat_drop Tm.row 4 (fun _ => rfl)]
  have hyl : ys.length = (n - (i + 1)) * 4 := by rw [hys, flatT_len, List.length_drop, ← HN.out]
  have hcell : ∀ wz : World, Blk wz g cur 50 → ∀ j u, ys[j]? = some u → wz.cell? (ad.add j) = some u := fun wz hz j u hu => by
    have hj : j < ys.length := (List.getElem?_eq_some_iff.1 hu).1
    have := had (by omega)
    subst this
    rw [addr_add, hz.cell]
    rw [hyd, List.getElem?_drop, ← HTK.out, List.getElem?_take] at hu
    rw [if_pos (by omega)] at hu
    rw [show 0 + (i + 1) * 4 + j = (i + 1) * 4 + j by omega, ← Array.getElem?_toList]
    exact hu
  obtain ⟨i0, hi0, hz0, hz1, hz2⟩ := info_parts info50
  have hap : ∀ wz : World, Blk wz g cur 50 → ∀ ty, (Builtin.append_ #[33, 33] ty #[.slice (some ⟨g, 0, none⟩) i c, .slice (some ad) (n - (i + 1)) (c - (i + 1))]).run Try.prog wz = .ok (.slice (some ⟨g, 0, none⟩) (i + (n - (i + 1))) c) (wz.setRow g (over cur (i * 4) ys)) := fun wz hz ty => by
    have := run_append_room (P := Try.prog) wz 33 ty 50 i0 Try.underlying33 hi0 g i c cur hz ad (n - (i + 1)) (c - (i + 1)) ys (by rw [hz1]; exact hyl) (hcell wz hz) (by rw [hys]; exact flatT_one _) (by omega) (by rw [hz1, HCS.out, hyl]; omega)
    rw [hz1] at this
    exact this
  try rw [show ∀ a : Act, a.put none undef = a from fun _ => rfl]
  refine wp_region_mix (fun _ : World => True) (fun i => i == 6 || i == 99) 99 (by kernel_rfl) rfl (by kernel_rfl) (by kernel_rfl) (by kernel_rfl) ?_
  refine withFrP (N := 33) rfl ?_
  intro f0 F0 hff
  have e0 : f0 0 = Value.slice (some ⟨g, 0, none⟩) n c := hff 0
  have e1 : f0 1 = Value.int .i64 (i : Int) := hff 1
  have e2 : f0 2 = Value.int .i64 ((i : Int) + 1) := hff 2
  clear hff
  have HCC : (fun _ : World => True) (({ w with drawn := w.drawn + 1 } : World)) := trivial
  have HD : Hid (Blk ({ w with drawn := w.drawn + 1 } : World) g cur 50) := HB.out
  refine lyp F0 rfl HCC rfl (by omega) (wanted_none rfl) (v := Value.slice (some ⟨g, 0, none⟩) n c) (fun wr hwr => by simp only [execOp, (F0.eval 0 (by omega)).trans (show _ = Value.slice (some ⟨g, 0, none⟩) n c from by simp [upd, e0, e1, e2])]; first | rfl | simp [go_sem]) fun Fp1 => ?_
  refine lyp Fp1 rfl HCC rfl (by omega) (wanted_none rfl) (v := Value.int .i64 (i : Int)) (fun wr hwr => by simp only [execOp, (Fp1.eval 1 (by omega)).trans (show _ = Value.int .i64 (i : Int) from by simp [upd, e0, e1, e2])]; first | rfl | simp [go_sem]) fun Fp2 => ?_
  refine lyp Fp2 rfl HCC rfl (by omega) (wanted_none rfl) (v := Value.slice (some ⟨g, 0, none⟩) i c) (fun wr hwr => by simp only [execOp, Option.map_some, Option.map_none, (Fp2.eval 20 (by omega)).trans (show _ = Value.slice (some ⟨g, 0, none⟩) n c from by simp [upd, e0, e1, e2]), (Fp2.eval 21 (by omega)).trans (show _ = Value.int .i64 (i : Int) from by simp [upd, e0, e1, e2])]; simp only [Sem.run_bind, Sem.run_pure, Result.andThen_ok, hhd wr]; try rfl) fun Fp3 => ?_
  refine lyp Fp3 rfl HCC rfl (by omega) (wanted_none rfl) (v := Value.slice (some ⟨g, 0, none⟩) n c) (fun wr hwr => by simp only [execOp, (Fp3.eval 0 (by omega)).trans (show _ = Value.slice (some ⟨g, 0, none⟩) n c from by simp [upd, e0, e1, e2])]; first | rfl | simp [go_sem]) fun Fp4 => ?_
  refine lyp Fp4 rfl HCC rfl (by omega) (wanted_none rfl) (v := Value.int .i64 ((i : Int) + 1)) (fun wr hwr => by simp only [execOp, (Fp4.eval 2 (by omega)).trans (show _ = Value.int .i64 ((i : Int) + 1) from by simp [upd, e0, e1, e2])]; first | rfl | simp [go_sem]) fun Fp5 => ?_
  refine lyp Fp5 rfl HCC rfl (by omega) (wanted_none rfl) (v := Value.slice (some ad) (n - (i + 1)) (c - (i + 1))) (fun wr hwr => by simp only [execOp, Option.map_some, Option.map_none, (Fp5.eval 23 (by omega)).trans (show _ = Value.slice (some ⟨g, 0, none⟩) n c from by simp [upd, e0, e1, e2]), (Fp5.eval 24 (by omega)).trans (show _ = Value.int .i64 ((i : Int) + 1) from by simp [upd, e0, e1, e2])]; simp only [Sem.run_bind, Sem.run_pure, Result.andThen_ok, hsl' wr]; try rfl) fun Fp6 => ?_
  refine lep Fp6 rfl HCC rfl (by omega) (wanted_none rfl) (v := Value.slice (some ⟨g, 0, none⟩) (i + (n - (i + 1))) c) (w1 := World.setRow ({ w with drawn := w.drawn + 1 } : World) g (over cur (i * 4) ys)) (by simp only [execOp, resolve, invoke, builtin, List.map_toArray, List.map_cons, List.map_nil, (Fp6.eval 22 (by omega)).trans (show _ = Value.slice (some ⟨g, 0, none⟩) i c from by simp [upd, e0, e1, e2]), (Fp6.eval 25 (by omega)).trans (show _ = Value.slice (some ad) (n - (i + 1)) (c - (i + 1)) from by simp [upd, e0, e1, e2])]; simp only [Sem.run_bind, Sem.run_pure, Result.andThen_ok, hap _ HD.out]; try rfl) fun Fp7 => ?_
  have HC6 : (fun _ : World => True) (World.setRow ({ w with drawn := w.drawn + 1 } : World) g (over cur (i * 4) ys)) := trivial
  refine lyp Fp7 rfl HC6 rfl (by omega) (wanted_none rfl) (v := Value.slice (some ⟨g, 0, none⟩) (i + (n - (i + 1))) c) (fun wr hwr => by simp only [execOp, (Fp7.eval 26 (by omega)).trans (show _ = Value.slice (some ⟨g, 0, none⟩) (i + (n - (i + 1))) c from by simp [upd, e0, e1, e2])]; first | rfl | simp [go_sem]) fun Fp8 => ?_
  refine ⟨fun _ => HC6, ?_⟩
  refine hK _ _ ?_
  clear F0 Fp1 Fp2 Fp3 Fp4 Fp5 Fp6 Fp7 Fp8 e0 e1 e2 HCC HC6
  simp only [Act.put, List.setIfInBounds_toArray, List.set_cons_succ, List.set_cons_zero]
  obtain ⟨m, hm⟩ : ∃ m, m = i + (n - (i + 1)) := ⟨_, rfl⟩
  have hmn : m + 1 = n := by omega
  rw [← hm]
  have hc1 := setRow_chg (cur' := over cur (i * 4) ys) (w := ({ w with drawn := w.drawn + 1 } : World)) HB.out
  have hos : (over cur (i * 4) ys).size = c * 4 := by rw [over_size _ _ _ (by rw [HCS.out, hyl]; omega)]; exact HCS.out
  have hot : (over cur (i * 4) ys).toList.take (m * 4) = flatT (l.eraseIdx i) := by
    rw [over_take _ _ _ _ (by rw [HCS.out]; omega) (by omega) (by rw [hyl]; omega), show ys.take (m * 4 - i * 4) = ys from List.take_of_length_le (by rw [hyl]; omega), List.eraseIdx_eq_take_drop_succ, flatT_app, ← hys]
    congr 1
    have h2 : cur.toList.take (i * 4) = (cur.toList.take (n * 4)).take (i * 4) := by rw [List.take_take, Nat.min_eq_left (by omega)]
    rw [h2, HTK.out]
    unfold flatT
    exact flat_take Tm.row 4 (fun _ => rfl) l i
  have hel : (l.eraseIdx i).length = m := by rw [List.length_eraseIdx, if_pos (by rw [← HN.out]; exact hil), ← HN.out]; omega
  obtain ⟨w2, cur2, hcl, hB2, hs2, ht2, hc2⟩ := clear4 hc1.2 ⟨g, m * 4, none⟩ (m * 4) (n - m) (c - m) (fun _ => rfl) (by rw [hos]; omega)
  have HF : Hid (w2.ownsRow base 50 4 (.slice (some ⟨g, 0, none⟩) m c) (l.eraseIdx i).length (flatT (l.eraseIdx i))) := show World.ownsRow _ _ _ _ _ _ _ from by rw [hel]; exact own_shut hel HBG.out hB2 (by omega) (by unfold maxLen; exact hcm) (by rw [hs2, hos]) (by rw [ht2 _ (Nat.le_refl _)]; exact hot)
  have HCF : Hid (Chg (fun k => (Value.slice (some ⟨g, 0, none⟩) n c).ownBlock = some k) w w2) := ((Chg.refl (fun k => k = g) w).drewN 1 |>.trans (hc1.1.trans hc2 (fun _ _ e => e)) (fun _ _ e => e)).mono (fun j _ e => by rw [e]; rfl)
  have hcl' : ∀ ty, (Builtin.clear_ #[33] ty #[.slice (some ⟨g, m * 4, none⟩) (n - m) (c - m)]).run Try.prog (World.setRow ({ w with drawn := w.drawn + 1 } : World) g (over cur (i * 4) ys)) = .ok (.tuple #[]) w2 := hcl
  generalize World.setRow ({ w with drawn := w.drawn + 1 } : World) g (over cur (i * 4) ys) = W5 at *
  have hmle : m ≤ n := by omega
  have hmn0 : m < n := by omega
  clear hm hmn hap hcell hyl hyd hys hhd hsl' hsl had hc1 hos hot hel hcl hB2 hs2 ht2 hc2 hi0 hz0 hz1 hz2
  go_wp2_with fail
  go_ret
  exact ⟨_, rfl, HF.out, rfl, HCF.out⟩
end Go.Proofs.Ytmnihombiabkgaa
