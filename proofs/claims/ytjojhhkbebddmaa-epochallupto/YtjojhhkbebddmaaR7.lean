import Derived.Test.YtjojhhkbebddmaaR6
namespace Go.Proofs.Ytjojhhkbebddmaa
open Go.RowKit Go.PlainAid
set_option linter.unusedVariables false
set_option linter.unusedSimpArgs false
theorem other_one {x : EV} {r : RV} (ha : Agr x r) (a b : Int) : other x ⟨a, b⟩ = (oneB r.n a b && decide (b ≠ (x.me : Int))) := by
  have hn := ha.n
  rw [Bool.eq_iff_iff]
  unfold other oneB
  rw [hn]
  simp only [Bool.and_eq_true, decide_eq_true_eq]
  omega
set_option maxRecDepth 100000 in
set_option maxHeartbeats 6400000 in
theorem told_1 {L me : Nat} {g : RG} {r : RV} (a b : Int) (w : World) (h : RM L g r w) (hme : r.me = me) (hlen : r.kn.length ≤ 1000000000) (h1 : oneB r.n a b = false) : Calls Try.prog 71 #[.pointer (some ⟨g.rb, 0, none⟩), .agg #[.int .i64 a, .int .i64 b]] w fun q w' => q = .returned (.tuple #[]) ∧ ∃ g', RM L g' r w' ∧ RStp g g' w w' := by
  have HM : Hid _ := h
  obtain ⟨W, hW⟩ : ∃ W, W = w.alloc (.cells #[.int .i64 a, .int .i64 b] 49) := ⟨_, rfl⟩
  have hB : Blk W w.heap.size #[.int .i64 a, .int .i64 b] 49 := by rw [hW]; exact heap_alloc_new w _
  have hbW : Below w.heap.size w W := by rw [hW]; exact (Below.refl _ _).alloc (Nat.le_refl _) _
  have HW : Hid _ := hW
  have HBW : Hid _ := hbW
  have HQN : Hid (¬ rown g w.heap.size) := show ¬ rown g w.heap.size from fun hk => by have := (h.lt hk).2; omega
  have HO : Hid _ := one_any a b W.drew (h.more hbW.drew)
  rw [h1] at HO
  have HCX : Hid (∀ W2, Below W.heap.size W W2 → W2.cell? ⟨g.rb, 0, none⟩ = some (.int .i64 (me : Int)) ∧ Blk W2 w.heap.size #[.int .i64 a, .int .i64 b] 49) := fun W2 h2 => ⟨by rw [← hme]; exact (h.more (bgo hbW h2 (Nat.le_refl _))).c0, hB.up h2⟩
  have HLEN : Hid _ := hlen
  clear h hB hbW hme h1 hlen
  go_enter Try.func71, Try.ntmps71
  go_upto_region 1 with fail
  try rw [← HW.out]
  clear HW hW
  rename_i K hK
  try rw [show ∀ a : Act, a.put none undef = a from fun _ => rfl]
  have hDR : Below W.heap.size W ({ W with drawn := W.drawn + 1 } : World) := (Below.refl _ _).drew
  have HC0 : (fun wz : World => wz.cell? ⟨g.rb, 0, none⟩ = some (.int .i64 (me : Int)) ∧ Blk wz (w.heap.size) #[.int .i64 a, .int .i64 b] 49) ({ W with drawn := W.drawn + 1 } : World) := HCX.out _ hDR
  refine wp_region_mix (fun wz : World => wz.cell? ⟨g.rb, 0, none⟩ = some (.int .i64 (me : Int)) ∧ Blk wz (w.heap.size) #[.int .i64 a, .int .i64 b] 49) (fun i => i == 2 || i == 11) 11 (by kernel_rfl) rfl (by kernel_rfl) (by kernel_rfl) (by kernel_rfl) ?_
  refine withFrP (N := 26) rfl ?_
  intro f0 F0 hff
  have ee0 : f0 0 = Value.pointer (some ⟨g.rb, 0, none⟩) := hff 0
  have ee1 : f0 3 = Value.pointer (some ⟨w.heap.size, 0, none⟩) := hff 3
  clear hff
  refine lyp F0 rfl HC0 rfl (by omega) (wanted_none rfl) (v := Value.pointer (some ⟨g.rb, 0, none⟩)) (fun wr hwr => by simp only [execOp, (F0.eval 0 (by omega)).trans (show _ = Value.pointer (some ⟨g.rb, 0, none⟩) from by simp [upd, ee0, ee1])]; first | rfl | simp [go_sem]) fun F1 => ?_
  refine lyp F1 rfl HC0 rfl (by omega) (wanted_none rfl) (v := Value.agg #[Value.int .i64 a, Value.int .i64 b]) (fun wr hwr => by simp only [execOp, (F1.eval 3 (by omega)).trans (show _ = Value.pointer (some ⟨w.heap.size, 0, none⟩) from by simp [upd, ee0, ee1])]; have h0 := hwr.2.cell 0; have h1 := hwr.2.cell 1; simp [go_sem, h0, h1]) fun F2 => ?_
  refine lcp F2 rfl HC0 rfl (by omega) (wanted_none rfl) (g := 73) (args := #[Value.pointer (some ⟨g.rb, 0, none⟩), Value.agg #[Value.int .i64 a, Value.int .i64 b]]) (by simp only [execOp, resolve, invoke, List.map_toArray, List.map_cons, List.map_nil, (F2.eval 4 (by omega)).trans (show _ = Value.pointer (some ⟨g.rb, 0, none⟩) from by simp [upd, ee0, ee1]), (F2.eval 5 (by omega)).trans (show _ = Value.agg #[Value.int .i64 a, Value.int .i64 b] from by simp [upd, ee0, ee1])]; simp [go_sem, Act.eval]) HO.out ?_
  rintro e w1 ⟨rfl, hb1⟩
  have hbd : Below W.heap.size W w1 := bgo hDR hb1 (Nat.le_refl _)
  have HC1 : (fun wz : World => wz.cell? ⟨g.rb, 0, none⟩ = some (.int .i64 (me : Int)) ∧ Blk wz (w.heap.size) #[.int .i64 a, .int .i64 b] 49) w1 := HCX.out _ hbd
  refine ⟨_, rfl, fun F3 => ?_⟩
  refine lyp F3 rfl HC1 rfl (by omega) (wanted_none rfl) (v := Value.bool false) (fun wr hwr => by simp only [execOp, (F3.eval 6 (by omega)).trans (show _ = Value.bool false from by simp [upd, ee0, ee1])]; first | rfl | simp [go_sem]) fun F4 => ?_
  refine lnp F4 rfl HC1 rfl (by omega) (want_no F4 rfl (e := 7) rfl (by omega) (show _ = Value.bool false from by simp [upd, ee0, ee1]) (by decide)) fun F5 => ?_
  refine lnp F5 rfl HC1 rfl (by omega) (want_no F5 rfl (e := 7) rfl (by omega) (show _ = Value.bool false from by simp [upd, ee0, ee1]) (by decide)) fun F6 => ?_
  refine lnp F6 rfl HC1 rfl (by omega) (want_no F6 rfl (e := 7) rfl (by omega) (show _ = Value.bool false from by simp [upd, ee0, ee1]) (by decide)) fun F7 => ?_
  refine lnp F7 rfl HC1 rfl (by omega) (want_no F7 rfl (e := 7) rfl (by omega) (show _ = Value.bool false from by simp [upd, ee0, ee1]) (by decide)) fun F8 => ?_
  refine lnp F8 rfl HC1 rfl (by omega) (want_no F8 rfl (e := 7) rfl (by omega) (show _ = Value.bool false from by simp [upd, ee0, ee1]) (by decide)) fun F9 => ?_
  refine lnp F9 rfl HC1 rfl (by omega) (want_no F9 rfl (e := 7) rfl (by omega) (show _ = Value.bool false from by simp [upd, ee0, ee1]) (by decide)) fun F10 => ?_
  refine lnp F10 rfl HC1 rfl (by omega) (want_no F10 rfl (e := 7) rfl (by omega) (show _ = Value.bool false from by simp [upd, ee0, ee1]) (by decide)) fun F11 => ?_
  refine lep F11 rfl HC1 rfl (by omega) (wanted_none rfl) (v := Value.bool false) (w1 := w1) (by simp only [execOp, (F11.eval 7 (by omega)).trans (show _ = Value.bool false from by simp [upd, ee0, ee1])]; simp [go_sem, Act.eval]) fun F12 => ?_
  refine ⟨fun h => by omega, ?_⟩
  refine hK _ _ ?_
  clear F0 F1 F2 F3 F4 F5 F6 F7 F8 F9 F10 F11 F12 ee0 ee1 HC0 HC1
  simp only [Act.put, List.setIfInBounds_toArray, List.set_cons_succ, List.set_cons_zero]
  go_wp2_with fail
  exact end0n Try.results71 ⟨rfl, g, HM.out.more (bgo HBW.out hbd (Nat.le_refl _)), RStp.refl (bgo HBW.out hbd (Nat.le_refl _))⟩
set_option maxRecDepth 100000 in
set_option maxHeartbeats 6400000 in
theorem told_2 {L me : Nat} {g : RG} {r : RV} (a b : Int) (w : World) (h : RM L g r w) (hme : r.me = me) (hlen : r.kn.length ≤ 1000000000) (h1 : oneB r.n a b = true) (hbm : b = (me : Int)) : Calls Try.prog 71 #[.pointer (some ⟨g.rb, 0, none⟩), .agg #[.int .i64 a, .int .i64 b]] w fun q w' => q = .returned (.tuple #[]) ∧ ∃ g', RM L g' r w' ∧ RStp g g' w w' := by
  have HM : Hid _ := h
  obtain ⟨W, hW⟩ : ∃ W, W = w.alloc (.cells #[.int .i64 a, .int .i64 b] 49) := ⟨_, rfl⟩
  have hB : Blk W w.heap.size #[.int .i64 a, .int .i64 b] 49 := by rw [hW]; exact heap_alloc_new w _
  have hbW : Below w.heap.size w W := by rw [hW]; exact (Below.refl _ _).alloc (Nat.le_refl _) _
  have HW : Hid _ := hW
  have HBW : Hid _ := hbW
  have HQN : Hid (¬ rown g w.heap.size) := show ¬ rown g w.heap.size from fun hk => by have := (h.lt hk).2; omega
  have HO : Hid _ := one_any a b W.drew (h.more hbW.drew)
  rw [h1] at HO
  have HCX : Hid (∀ W2, Below W.heap.size W W2 → W2.cell? ⟨g.rb, 0, none⟩ = some (.int .i64 (me : Int)) ∧ Blk W2 w.heap.size #[.int .i64 a, .int .i64 b] 49) := fun W2 h2 => ⟨by rw [← hme]; exact (h.more (bgo hbW h2 (Nat.le_refl _))).c0, hB.up h2⟩
  have HLEN : Hid _ := hlen
  clear h hB hbW hme h1 hlen
  have hne : (b != (me : Int)) = false := by simp [hbm]
  clear hbm
  go_enter Try.func71, Try.ntmps71
  go_upto_region 1 with fail
  try rw [← HW.out]
  clear HW hW
  rename_i K hK
  try rw [show ∀ a : Act, a.put none undef = a from fun _ => rfl]
  have hDR : Below W.heap.size W ({ W with drawn := W.drawn + 1 } : World) := (Below.refl _ _).drew
  have HC0 : (fun wz : World => wz.cell? ⟨g.rb, 0, none⟩ = some (.int .i64 (me : Int)) ∧ Blk wz (w.heap.size) #[.int .i64 a, .int .i64 b] 49) ({ W with drawn := W.drawn + 1 } : World) := HCX.out _ hDR
  refine wp_region_mix (fun wz : World => wz.cell? ⟨g.rb, 0, none⟩ = some (.int .i64 (me : Int)) ∧ Blk wz (w.heap.size) #[.int .i64 a, .int .i64 b] 49) (fun i => i == 2 || i == 11) 11 (by kernel_rfl) rfl (by kernel_rfl) (by kernel_rfl) (by kernel_rfl) ?_
  refine withFrP (N := 26) rfl ?_
  intro f0 F0 hff
  have ee0 : f0 0 = Value.pointer (some ⟨g.rb, 0, none⟩) := hff 0
  have ee1 : f0 3 = Value.pointer (some ⟨w.heap.size, 0, none⟩) := hff 3
  clear hff
  refine lyp F0 rfl HC0 rfl (by omega) (wanted_none rfl) (v := Value.pointer (some ⟨g.rb, 0, none⟩)) (fun wr hwr => by simp only [execOp, (F0.eval 0 (by omega)).trans (show _ = Value.pointer (some ⟨g.rb, 0, none⟩) from by simp [upd, ee0, ee1])]; first | rfl | simp [go_sem]) fun F1 => ?_
  refine lyp F1 rfl HC0 rfl (by omega) (wanted_none rfl) (v := Value.agg #[Value.int .i64 a, Value.int .i64 b]) (fun wr hwr => by simp only [execOp, (F1.eval 3 (by omega)).trans (show _ = Value.pointer (some ⟨w.heap.size, 0, none⟩) from by simp [upd, ee0, ee1])]; have h0 := hwr.2.cell 0; have h1 := hwr.2.cell 1; simp [go_sem, h0, h1]) fun F2 => ?_
  refine lcp F2 rfl HC0 rfl (by omega) (wanted_none rfl) (g := 73) (args := #[Value.pointer (some ⟨g.rb, 0, none⟩), Value.agg #[Value.int .i64 a, Value.int .i64 b]]) (by simp only [execOp, resolve, invoke, List.map_toArray, List.map_cons, List.map_nil, (F2.eval 4 (by omega)).trans (show _ = Value.pointer (some ⟨g.rb, 0, none⟩) from by simp [upd, ee0, ee1]), (F2.eval 5 (by omega)).trans (show _ = Value.agg #[Value.int .i64 a, Value.int .i64 b] from by simp [upd, ee0, ee1])]; simp [go_sem, Act.eval]) HO.out ?_
  rintro e w1 ⟨rfl, hb1⟩
  have hbd : Below W.heap.size W w1 := bgo hDR hb1 (Nat.le_refl _)
  have HC1 : (fun wz : World => wz.cell? ⟨g.rb, 0, none⟩ = some (.int .i64 (me : Int)) ∧ Blk wz (w.heap.size) #[.int .i64 a, .int .i64 b] 49) w1 := HCX.out _ hbd
  refine ⟨_, rfl, fun F3 => ?_⟩
  refine lyp F3 rfl HC1 rfl (by omega) (wanted_none rfl) (v := Value.bool true) (fun wr hwr => by simp only [execOp, (F3.eval 6 (by omega)).trans (show _ = Value.bool true from by simp [upd, ee0, ee1])]; first | rfl | simp [go_sem]) fun F4 => ?_
  refine lyp F4 rfl HC1 rfl (by omega) (want_yes F4 rfl (e := 7) rfl (by omega) (show _ = Value.bool true from by simp [upd, ee0, ee1])) (v := Value.pointer (some ⟨w.heap.size, 1, none⟩)) (fun wr hwr => by simp only [execOp, (F4.eval 3 (by omega)).trans (show _ = Value.pointer (some ⟨w.heap.size, 0, none⟩) from by simp [upd, ee0, ee1])]; simp [go_sem]) fun F5 => ?_
  refine lyp F5 rfl HC1 rfl (by omega) (want_yes F5 rfl (e := 7) rfl (by omega) (show _ = Value.bool true from by simp [upd, ee0, ee1])) (v := Value.int .i64 b) (fun wr hwr => by simp only [execOp, (F5.eval 8 (by omega)).trans (show _ = Value.pointer (some ⟨w.heap.size, 1, none⟩) from by simp [upd, ee0, ee1])]; have h1 := hwr.2.cell 1; simp [go_sem, h1]) fun F6 => ?_
  refine lyp F6 rfl HC1 rfl (by omega) (want_yes F6 rfl (e := 7) rfl (by omega) (show _ = Value.bool true from by simp [upd, ee0, ee1])) (v := Value.pointer (some ⟨g.rb, 0, none⟩)) (fun wr hwr => by simp only [execOp, (F6.eval 0 (by omega)).trans (show _ = Value.pointer (some ⟨g.rb, 0, none⟩) from by simp [upd, ee0, ee1])]; first | rfl | simp [go_sem]) fun F7 => ?_
  refine lyp F7 rfl HC1 rfl (by omega) (want_yes F7 rfl (e := 7) rfl (by omega) (show _ = Value.bool true from by simp [upd, ee0, ee1])) (v := Value.pointer (some ⟨g.rb, 0, none⟩)) (fun wr hwr => by simp only [execOp, (F7.eval 10 (by omega)).trans (show _ = Value.pointer (some ⟨g.rb, 0, none⟩) from by simp [upd, ee0, ee1])]; simp [go_sem]) fun F8 => ?_
  refine lyp F8 rfl HC1 rfl (by omega) (want_yes F8 rfl (e := 7) rfl (by omega) (show _ = Value.bool true from by simp [upd, ee0, ee1])) (v := Value.pointer (some ⟨g.rb, 0, none⟩)) (fun wr hwr => by simp only [execOp, (F8.eval 11 (by omega)).trans (show _ = Value.pointer (some ⟨g.rb, 0, none⟩) from by simp [upd, ee0, ee1])]; simp [go_sem]) fun F9 => ?_
  refine lyp F9 rfl HC1 rfl (by omega) (want_yes F9 rfl (e := 7) rfl (by omega) (show _ = Value.bool true from by simp [upd, ee0, ee1])) (v := Value.int .i64 (me : Int)) (fun wr hwr => by simp only [execOp, (F9.eval 12 (by omega)).trans (show _ = Value.pointer (some ⟨g.rb, 0, none⟩) from by simp [upd, ee0, ee1])]; simp [go_sem, hwr.1]) fun F10 => ?_
  refine lyp F10 rfl HC1 rfl (by omega) (want_yes F10 rfl (e := 7) rfl (by omega) (show _ = Value.bool true from by simp [upd, ee0, ee1])) (v := Value.bool false) (fun wr hwr => by simp only [execOp, (F10.eval 9 (by omega)).trans (show _ = Value.int .i64 b from by simp [upd, ee0, ee1]), (F10.eval 13 (by omega)).trans (show _ = Value.int .i64 (me : Int) from by simp [upd, ee0, ee1])]; simp [go_sem, hne]) fun F11 => ?_
  refine lep F11 rfl HC1 rfl (by omega) (wanted_none rfl) (v := Value.bool false) (w1 := w1) (by simp only [execOp, (F11.eval 7 (by omega)).trans (show _ = Value.bool true from by simp [upd, ee0, ee1]), (F11.eval 14 (by omega)).trans (show _ = Value.bool false from by simp [upd, ee0, ee1])]; simp [go_sem, Act.eval]) fun F12 => ?_
  refine ⟨fun h => by omega, ?_⟩
  refine hK _ _ ?_
  clear F0 F1 F2 F3 F4 F5 F6 F7 F8 F9 F10 F11 F12 ee0 ee1 HC0 HC1
  simp only [Act.put, List.setIfInBounds_toArray, List.set_cons_succ, List.set_cons_zero]
  go_wp2_with fail
  exact end0n Try.results71 ⟨rfl, g, HM.out.more (bgo HBW.out hbd (Nat.le_refl _)), RStp.refl (bgo HBW.out hbd (Nat.le_refl _))⟩
set_option maxRecDepth 100000 in
set_option maxHeartbeats 6400000 in
theorem told_3 {L me : Nat} {g : RG} {r : RV} (a b : Int) (w : World) (h : RM L g r w) (hme : r.me = me) (hlen : r.kn.length ≤ 1000000000) (h1 : oneB r.n a b = true) (hbm : b ≠ (me : Int)) : Calls Try.prog 71 #[.pointer (some ⟨g.rb, 0, none⟩), .agg #[.int .i64 a, .int .i64 b]] w fun q w' => q = .returned (.tuple #[]) ∧ ∃ g', RM L g' { r with kn := r.kn ++ [⟨a, b⟩] } w' ∧ RStp g g' w w' := by
  have HM : Hid _ := h
  obtain ⟨W, hW⟩ : ∃ W, W = w.alloc (.cells #[.int .i64 a, .int .i64 b] 49) := ⟨_, rfl⟩
  have hB : Blk W w.heap.size #[.int .i64 a, .int .i64 b] 49 := by rw [hW]; exact heap_alloc_new w _
  have hbW : Below w.heap.size w W := by rw [hW]; exact (Below.refl _ _).alloc (Nat.le_refl _) _
  have HW : Hid _ := hW
  have HBW : Hid _ := hbW
  have HQN : Hid (¬ rown g w.heap.size) := show ¬ rown g w.heap.size from fun hk => by have := (h.lt hk).2; omega
  have HO : Hid _ := one_any a b W.drew (h.more hbW.drew)
  rw [h1] at HO
  have HCX : Hid (∀ W2, Below W.heap.size W W2 → W2.cell? ⟨g.rb, 0, none⟩ = some (.int .i64 (me : Int)) ∧ Blk W2 w.heap.size #[.int .i64 a, .int .i64 b] 49) := fun W2 h2 => ⟨by rw [← hme]; exact (h.more (bgo hbW h2 (Nat.le_refl _))).c0, hB.up h2⟩
  have HLEN : Hid _ := hlen
  clear h hB hbW hme h1 hlen
  have hne : (b != (me : Int)) = true := by simp [hbm]
  clear hbm
  go_enter Try.func71, Try.ntmps71
  go_upto_region 1 with fail
  try rw [← HW.out]
  clear HW hW
  rename_i K hK
  try rw [show ∀ a : Act, a.put none undef = a from fun _ => rfl]
  have hDR : Below W.heap.size W ({ W with drawn := W.drawn + 1 } : World) := (Below.refl _ _).drew
  have HC0 : (fun wz : World => wz.cell? ⟨g.rb, 0, none⟩ = some (.int .i64 (me : Int)) ∧ Blk wz (w.heap.size) #[.int .i64 a, .int .i64 b] 49) ({ W with drawn := W.drawn + 1 } : World) := HCX.out _ hDR
  refine wp_region_mix (fun wz : World => wz.cell? ⟨g.rb, 0, none⟩ = some (.int .i64 (me : Int)) ∧ Blk wz (w.heap.size) #[.int .i64 a, .int .i64 b] 49) (fun i => i == 2 || i == 11) 11 (by kernel_rfl) rfl (by kernel_rfl) (by kernel_rfl) (by kernel_rfl) ?_
  refine withFrP (N := 26) rfl ?_
  intro f0 F0 hff
  have ee0 : f0 0 = Value.pointer (some ⟨g.rb, 0, none⟩) := hff 0
  have ee1 : f0 3 = Value.pointer (some ⟨w.heap.size, 0, none⟩) := hff 3
  clear hff
  refine lyp F0 rfl HC0 rfl (by omega) (wanted_none rfl) (v := Value.pointer (some ⟨g.rb, 0, none⟩)) (fun wr hwr => by simp only [execOp, (F0.eval 0 (by omega)).trans (show _ = Value.pointer (some ⟨g.rb, 0, none⟩) from by simp [upd, ee0, ee1])]; first | rfl | simp [go_sem]) fun F1 => ?_
  refine lyp F1 rfl HC0 rfl (by omega) (wanted_none rfl) (v := Value.agg #[Value.int .i64 a, Value.int .i64 b]) (fun wr hwr => by simp only [execOp, (F1.eval 3 (by omega)).trans (show _ = Value.pointer (some ⟨w.heap.size, 0, none⟩) from by simp [upd, ee0, ee1])]; have h0 := hwr.2.cell 0; have h1 := hwr.2.cell 1; simp [go_sem, h0, h1]) fun F2 => ?_
  refine lcp F2 rfl HC0 rfl (by omega) (wanted_none rfl) (g := 73) (args := #[Value.pointer (some ⟨g.rb, 0, none⟩), Value.agg #[Value.int .i64 a, Value.int .i64 b]]) (by simp only [execOp, resolve, invoke, List.map_toArray, List.map_cons, List.map_nil, (F2.eval 4 (by omega)).trans (show _ = Value.pointer (some ⟨g.rb, 0, none⟩) from by simp [upd, ee0, ee1]), (F2.eval 5 (by omega)).trans (show _ = Value.agg #[Value.int .i64 a, Value.int .i64 b] from by simp [upd, ee0, ee1])]; simp [go_sem, Act.eval]) HO.out ?_
  rintro e w1 ⟨rfl, hb1⟩
  have hbd : Below W.heap.size W w1 := bgo hDR hb1 (Nat.le_refl _)
  have HC1 : (fun wz : World => wz.cell? ⟨g.rb, 0, none⟩ = some (.int .i64 (me : Int)) ∧ Blk wz (w.heap.size) #[.int .i64 a, .int .i64 b] 49) w1 := HCX.out _ hbd
  refine ⟨_, rfl, fun F3 => ?_⟩
  refine lyp F3 rfl HC1 rfl (by omega) (wanted_none rfl) (v := Value.bool true) (fun wr hwr => by simp only [execOp, (F3.eval 6 (by omega)).trans (show _ = Value.bool true from by simp [upd, ee0, ee1])]; first | rfl | simp [go_sem]) fun F4 => ?_
  refine lyp F4 rfl HC1 rfl (by omega) (want_yes F4 rfl (e := 7) rfl (by omega) (show _ = Value.bool true from by simp [upd, ee0, ee1])) (v := Value.pointer (some ⟨w.heap.size, 1, none⟩)) (fun wr hwr => by simp only [execOp, (F4.eval 3 (by omega)).trans (show _ = Value.pointer (some ⟨w.heap.size, 0, none⟩) from by simp [upd, ee0, ee1])]; simp [go_sem]) fun F5 => ?_
  refine lyp F5 rfl HC1 rfl (by omega) (want_yes F5 rfl (e := 7) rfl (by omega) (show _ = Value.bool true from by simp [upd, ee0, ee1])) (v := Value.int .i64 b) (fun wr hwr => by simp only [execOp, (F5.eval 8 (by omega)).trans (show _ = Value.pointer (some ⟨w.heap.size, 1, none⟩) from by simp [upd, ee0, ee1])]; have h1 := hwr.2.cell 1; simp [go_sem, h1]) fun F6 => ?_
  refine lyp F6 rfl HC1 rfl (by omega) (want_yes F6 rfl (e := 7) rfl (by omega) (show _ = Value.bool true from by simp [upd, ee0, ee1])) (v := Value.pointer (some ⟨g.rb, 0, none⟩)) (fun wr hwr => by simp only [execOp, (F6.eval 0 (by omega)).trans (show _ = Value.pointer (some ⟨g.rb, 0, none⟩) from by simp [upd, ee0, ee1])]; first | rfl | simp [go_sem]) fun F7 => ?_
  refine lyp F7 rfl HC1 rfl (by omega) (want_yes F7 rfl (e := 7) rfl (by omega) (show _ = Value.bool true from by simp [upd, ee0, ee1])) (v := Value.pointer (some ⟨g.rb, 0, none⟩)) (fun wr hwr => by simp only [execOp, (F7.eval 10 (by omega)).trans (show _ = Value.pointer (some ⟨g.rb, 0, none⟩) from by simp [upd, ee0, ee1])]; simp [go_sem]) fun F8 => ?_
  refine lyp F8 rfl HC1 rfl (by omega) (want_yes F8 rfl (e := 7) rfl (by omega) (show _ = Value.bool true from by simp [upd, ee0, ee1])) (v := Value.pointer (some ⟨g.rb, 0, none⟩)) (fun wr hwr => by simp only [execOp, (F8.eval 11 (by omega)).trans (show _ = Value.pointer (some ⟨g.rb, 0, none⟩) from by simp [upd, ee0, ee1])]; simp [go_sem]) fun F9 => ?_
  refine lyp F9 rfl HC1 rfl (by omega) (want_yes F9 rfl (e := 7) rfl (by omega) (show _ = Value.bool true from by simp [upd, ee0, ee1])) (v := Value.int .i64 (me : Int)) (fun wr hwr => by simp only [execOp, (F9.eval 12 (by omega)).trans (show _ = Value.pointer (some ⟨g.rb, 0, none⟩) from by simp [upd, ee0, ee1])]; simp [go_sem, hwr.1]) fun F10 => ?_
  refine lyp F10 rfl HC1 rfl (by omega) (want_yes F10 rfl (e := 7) rfl (by omega) (show _ = Value.bool true from by simp [upd, ee0, ee1])) (v := Value.bool true) (fun wr hwr => by simp only [execOp, (F10.eval 9 (by omega)).trans (show _ = Value.int .i64 b from by simp [upd, ee0, ee1]), (F10.eval 13 (by omega)).trans (show _ = Value.int .i64 (me : Int) from by simp [upd, ee0, ee1])]; simp [go_sem, hne]) fun F11 => ?_
  refine lep F11 rfl HC1 rfl (by omega) (wanted_none rfl) (v := Value.bool true) (w1 := w1) (by simp only [execOp, (F11.eval 7 (by omega)).trans (show _ = Value.bool true from by simp [upd, ee0, ee1]), (F11.eval 14 (by omega)).trans (show _ = Value.bool true from by simp [upd, ee0, ee1])]; simp [go_sem, Act.eval]) fun F12 => ?_
  refine ⟨fun h => by omega, ?_⟩
  refine hK _ _ ?_
  clear F0 F1 F2 F3 F4 F5 F6 F7 F8 F9 F10 F11 F12 ee0 ee1 HC0 HC1
  simp only [Act.put, List.setIfInBounds_toArray, List.set_cons_succ, List.set_cons_zero]
  have HMX : Hid (RM L g r w1) := show RM _ _ _ _ from HM.out.more (bgo HBW.out hbd (Nat.le_refl _))
  have HBX : Hid (Blk w1 w.heap.size #[.int .i64 a, .int .i64 b] 49) := (HCX.out _ hbd).2
  have HBB : Hid (Below w.heap.size w w1) := bgo HBW.out hbd (Nat.le_refl _)
  clear hDR hbd hb1
  go_upto_region 2 with fail
  try rw [show ∀ a : Act, a.put none undef = a from fun _ => rfl]
  have hDR : Below w1.heap.size w1 ({ w1 with drawn := w1.drawn + 1 } : World) := (Below.refl _ _).drew
  have HMD : Hid (RM L g r ({ w1 with drawn := w1.drawn + 1 } : World)) := show RM L g r _ from HMX.out.more hDR
  obtain ⟨v8, w8, hr8, hB8, hC8, hR8, hS8⟩ := HMD.out.addK ⟨a, b⟩ HLEN.out
  obtain ⟨ao8, n8, c8, hv8⟩ : ∃ ao n c, v8 = Value.slice ao n c := by obtain ⟨ao, c, h, _⟩ := own_slice hR8.k; exact ⟨_, _, _, h⟩
  subst hv8
  have HR8 : Hid _ := hR8
  have HS8 : Hid _ := hS8
  clear hR8 hS8
  have HC0 : (fun wz : World => wz.cell? ⟨g.rb, 2, none⟩ = some g.vk ∧ Blk wz w.heap.size #[.int .i64 a, .int .i64 b] 49) ({ w1 with drawn := w1.drawn + 1 } : World) := ⟨HMD.out.c2, HBX.out⟩
  have hqn : g.vk.ownBlock ≠ some (w.heap.size) := fun e => HQN.out (.inr (.inl e))
  have HCA : (fun wz : World => wz.cell? ⟨g.rb, 2, none⟩ = some g.vk ∧ Blk wz w.heap.size #[.int .i64 a, .int .i64 b] 49) (World.alloc ({ w1 with drawn := w1.drawn + 1 } : World) (.cells #[.int .i64 a, .int .i64 b] 49)) := ⟨(Below.cell (Below.alloc (Below.refl _ _) (Nat.le_refl _) _) (World.block_lt_of_cell? _ _ HC0.1)).trans HC0.1, Blk.allc HC0.2 _⟩
  have HC9 : (fun wz : World => wz.cell? ⟨g.rb, 2, none⟩ = some g.vk ∧ Blk wz w.heap.size #[.int .i64 a, .int .i64 b] 49) w8 := ⟨(hB8.cell 2).trans rfl, hC8.blk HC0.2 hqn⟩
  refine wp_region_mix (fun wz : World => wz.cell? ⟨g.rb, 2, none⟩ = some g.vk ∧ Blk wz w.heap.size #[.int .i64 a, .int .i64 b] 49) (fun i => i == 6 || i == 7 || i == 10) 10 (by kernel_rfl) rfl (by kernel_rfl) (by kernel_rfl) (by kernel_rfl) ?_
  refine withFrP (N := 26) rfl ?_
  intro f0 F0 hff
  have ee0 : f0 0 = Value.pointer (some ⟨g.rb, 0, none⟩) := hff 0
  have ee1 : f0 3 = Value.pointer (some ⟨w.heap.size, 0, none⟩) := hff 3
  clear hff
  refine lyp F0 rfl HC0 rfl (by omega) (wanted_none rfl) (v := Value.pointer (some ⟨g.rb, 0, none⟩)) (fun wr hwr => by simp only [execOp, (F0.eval 0 (by omega)).trans (show _ = Value.pointer (some ⟨g.rb, 0, none⟩) from by simp [upd, ee0, ee1])]; first | rfl | simp [go_sem]) fun F1 => ?_
  refine lyp F1 rfl HC0 rfl (by omega) (wanted_none rfl) (v := Value.pointer (some ⟨g.rb, 0, none⟩)) (fun wr hwr => by simp only [execOp, (F1.eval 0 (by omega)).trans (show _ = Value.pointer (some ⟨g.rb, 0, none⟩) from by simp [upd, ee0, ee1])]; first | rfl | simp [go_sem]) fun F2 => ?_
  refine lyp F2 rfl HC0 rfl (by omega) (wanted_none rfl) (v := Value.pointer (some ⟨g.rb, 0, none⟩)) (fun wr hwr => by simp only [execOp, (F2.eval 17 (by omega)).trans (show _ = Value.pointer (some ⟨g.rb, 0, none⟩) from by simp [upd, ee0, ee1])]; simp [go_sem]) fun F3 => ?_
  refine lyp F3 rfl HC0 rfl (by omega) (wanted_none rfl) (v := Value.pointer (some ⟨g.rb, 2, none⟩)) (fun wr hwr => by simp only [execOp, (F3.eval 18 (by omega)).trans (show _ = Value.pointer (some ⟨g.rb, 0, none⟩) from by simp [upd, ee0, ee1])]; simp [go_sem]) fun F4 => ?_
  refine lyp F4 rfl HC0 rfl (by omega) (wanted_none rfl) (v := g.vk) (fun wr hwr => by simp only [execOp, (F4.eval 19 (by omega)).trans (show _ = Value.pointer (some ⟨g.rb, 2, none⟩) from by simp [upd, ee0, ee1])]; simp [go_sem, hwr.1]) fun F5 => ?_
  refine lyp F5 rfl HC0 rfl (by omega) (wanted_none rfl) (v := Value.agg #[Value.int .i64 a, Value.int .i64 b]) (fun wr hwr => by simp only [execOp, (F5.eval 3 (by omega)).trans (show _ = Value.pointer (some ⟨w.heap.size, 0, none⟩) from by simp [upd, ee0, ee1])]; have h0 := hwr.2.cell 0; have h1 := hwr.2.cell 1; simp [go_sem, h0, h1]) fun F6 => ?_
  refine lep F6 rfl HC0 rfl (by omega) (wanted_none rfl) (v := Value.slice (some ⟨({ w1 with drawn := w1.drawn + 1 } : World).heap.size, 0, none⟩) 1 1) (w1 := (World.alloc ({ w1 with drawn := w1.drawn + 1 } : World) (.cells #[.int .i64 a, .int .i64 b] 49))) (by simp only [execOp, List.map_toArray, List.map_cons, List.map_nil, (F6.eval 21 (by omega)).trans (show _ = Value.agg #[Value.int .i64 a, Value.int .i64 b] from by simp [upd, ee0, ee1])]; simp [go_sem]) fun F7 => ?_
  refine lep F7 rfl HCA rfl (by omega) (wanted_none rfl) (v := Value.slice ao8 n8 c8) (w1 := w8) (by simp only [execOp, resolve, invoke, builtin, List.map_toArray, List.map_cons, List.map_nil, (F7.eval 20 (by omega)).trans (show _ = g.vk from by simp [upd, ee0, ee1]), (F7.eval 22 (by omega)).trans (show _ = Value.slice (some ⟨({ w1 with drawn := w1.drawn + 1 } : World).heap.size, 0, none⟩) 1 1 from by simp [upd, ee0, ee1])]; simp only [Sem.run_bind, Sem.run_pure, Result.andThen_ok, hr8]; try rfl) fun F8 => ?_
  refine lyp F8 rfl HC9 rfl (by omega) (wanted_none rfl) (v := Value.pointer (some ⟨g.rb, 0, none⟩)) (fun wr hwr => by simp only [execOp, (F8.eval 16 (by omega)).trans (show _ = Value.pointer (some ⟨g.rb, 0, none⟩) from by simp [upd, ee0, ee1])]; simp [go_sem]) fun F9 => ?_
  refine lyp F9 rfl HC9 rfl (by omega) (wanted_none rfl) (v := Value.pointer (some ⟨g.rb, 2, none⟩)) (fun wr hwr => by simp only [execOp, (F9.eval 24 (by omega)).trans (show _ = Value.pointer (some ⟨g.rb, 0, none⟩) from by simp [upd, ee0, ee1])]; simp [go_sem]) fun F10 => ?_
  refine lst rfl HC9 rfl (wanted_none rfl) (w1 := w8.setCell ⟨g.rb, 2, none⟩ (Value.slice ao8 n8 c8)) (by simp only [execOp, (F10.eval 25 (by omega)).trans (show _ = Value.pointer (some ⟨g.rb, 2, none⟩) from by simp [upd, ee0, ee1]), (F10.eval 23 (by omega)).trans (show _ = Value.slice ao8 n8 c8 from by simp [upd, ee0, ee1])]; simp [go_sem, hB8.frozen 2, show w8.cell? ⟨g.rb, 2, none⟩ = some g.vk from HC9.1]) ?_
  refine ⟨fun h => by omega, ?_⟩
  clear F0 F1 F2 F3 F4 F5 F6 F7 F8 F9 F10 ee0 ee1 HC0 HCA HC9 hr8 hB8 hqn hC8 HMD
  simp only [Act.put, List.setIfInBounds_toArray, List.set_cons_succ, List.set_cons_zero]
  exact end0n Try.results71 ⟨rfl, _, HR8.out, (RStp.refl (bgo HBB.out hDR (Nat.le_refl _))).trans HS8.out⟩
def toldR (x : EV) (r : RV) (e : Ep) : RV := if other x e = true then { r with kn := r.kn ++ [e] } else r
theorem told_any {L : Nat} {g : RG} {x : EV} {r : RV} (e : Ep) (w : World) (h : RM L g r w) (hme : r.me = x.me) (hn : r.n = x.n) (hlen : r.kn.length ≤ 1000000000) : Calls Try.prog 71 #[.pointer (some ⟨g.rb, 0, none⟩), epV e] w fun q w' => q = .returned (.tuple #[]) ∧ ∃ g', RM L g' (toldR x r e) w' ∧ RStp g g' w w' := by
  obtain ⟨a, b⟩ := e
  have hon : other x ⟨a, b⟩ = (oneB r.n a b && decide (b ≠ (x.me : Int))) := by
    rw [Bool.eq_iff_iff]
    unfold other oneB
    rw [hn]
    simp only [Bool.and_eq_true, decide_eq_true_eq]
    omega
  unfold toldR
  rw [hon]
  cases h1 : oneB r.n a b
  · exact told_1 a b w h hme hlen h1
  · by_cases h2 : b = (x.me : Int)
    · rw [if_neg (by simp [h2])]
      exact told_2 a b w h hme hlen h1 h2
    · rw [if_pos (by simp [h2])]
      exact told_3 a b w h hme hlen h1 h2
end Go.Proofs.Ytjojhhkbebddmaa
