import Derived.Test.YtjojhhkbebddmaaR13
namespace Go.Proofs.Ytjojhhkbebddmaa
open Go.RowKit Go.PlainAid
set_option linter.unusedVariables false
set_option linter.unusedSimpArgs false
theorem eql49i (a b c d : Int) (W : World) : (binOp .eql 49 (.agg #[.int .i64 a, .int .i64 b]) (.agg #[.int .i64 c, .int .i64 d])).run Try.prog W = .ok (.bool (sameE a b c d)) W := eql49 a b c d W
set_option maxRecDepth 100000 in
set_option maxHeartbeats 6400000 in
theorem rrep_0 {L me n : Nat} {g : RG} {x : EV} {r : RV} (f a b h er ek : Int) (w : World) (hM : RM L g r w) (ha : Agr x r) (hx : x.Nm) (hE : liveE x x.me = ⟨er, ek⟩) (hme : r.me = me) (hn : r.n = n) (g0 : (f != (me : Int)) = false) : Calls Try.prog 50 #[.pointer (some ⟨g.rb, 0, none⟩), .int .i64 f, .agg #[.int .i64 a, .int .i64 b], .int .i64 h] w fun e w' => e = .returned (.tuple #[]) ∧ Below w.heap.size w w' := by
  have HM : Hid _ := hM
  obtain ⟨W, hW⟩ : ∃ W, W = w.alloc (.cells #[.int .i64 a, .int .i64 b] 49) := ⟨_, rfl⟩
  have hB : Blk W w.heap.size #[.int .i64 a, .int .i64 b] 49 := by rw [hW]; exact heap_alloc_new w _
  have hbW : Below w.heap.size w W := by rw [hW]; exact (Below.refl _ _).alloc (Nat.le_refl _) _
  obtain ⟨p, hp⟩ : ∃ p, p = w.heap.size := ⟨_, rfl⟩
  rw [← hp] at hB
  have HQN : Hid (¬ rown g p) := show ¬ rown g p from fun hk => by have := (hM.lt hk).2; omega
  have HO : Hid (Calls Try.prog 46 #[.pointer (some ⟨g.rb, 0, none⟩)] W.drew fun e w' => e = .returned (epV ⟨er, ek⟩) ∧ Below W.drew.heap.size W.drew w') := show Calls _ _ _ _ _ from by rw [← hE]; exact rown_any W.drew (hM.more hbW.drew) ha hx
  have HCX : Hid (∀ W2, Below W.heap.size W W2 → W2.cell? ⟨g.rb, 0, none⟩ = some (.int .i64 (me : Int)) ∧ W2.cell? ⟨g.rb, 1, none⟩ = some (.int .i64 (n : Int)) ∧ Blk W2 p #[.int .i64 a, .int .i64 b] 49) := fun W2 h2 => ⟨by rw [← hme]; exact (hM.more (bgo hbW h2 (Nat.le_refl _))).c0, by rw [← hn]; exact (hM.more (bgo hbW h2 (Nat.le_refl _))).c1, hB.up h2⟩
  have HBW : Hid _ := hbW
  have HW : Hid _ := hW
  have HP : Hid _ := hp
  clear hM ha hx hE hme hn hB hbW
  unfold epV at *
  go_enter Try.func50, Try.ntmps50
  go_upto_region 1 with fail
  try rw [← HW.out]
  try rw [← HP.out]
  clear HW hW hp
  rename_i K hK
  try rw [show ∀ a : Act, a.put none undef = a from fun _ => rfl]
  have hDR : Below W.heap.size W ({ W with drawn := W.drawn + 1 } : World) := (Below.refl _ _).drew
  have HC0 : (fun wz : World => wz.cell? ⟨g.rb, 0, none⟩ = some (.int .i64 (me : Int)) ∧ wz.cell? ⟨g.rb, 1, none⟩ = some (.int .i64 (n : Int)) ∧ Blk wz p #[.int .i64 a, .int .i64 b] 49) ({ W with drawn := W.drawn + 1 } : World) := HCX.out _ hDR
  refine wp_region_mix (fun wz : World => wz.cell? ⟨g.rb, 0, none⟩ = some (.int .i64 (me : Int)) ∧ wz.cell? ⟨g.rb, 1, none⟩ = some (.int .i64 (n : Int)) ∧ Blk wz p #[.int .i64 a, .int .i64 b] 49) (fun i => i == 36) 36 (by kernel_rfl) rfl (by kernel_rfl) (by kernel_rfl) (by kernel_rfl) ?_
  refine withFrP (N := 58) rfl ?_
  intro f0 F0 hff
  have ee0 : f0 0 = Value.pointer (some ⟨g.rb, 0, none⟩) := hff 0
  have ee1 : f0 1 = Value.int .i64 f := hff 1
  have ee3 : f0 3 = Value.int .i64 h := hff 3
  have ee6 : f0 6 = Value.pointer (some ⟨p, 0, none⟩) := hff 6
  clear hff
  refine lyp F0 rfl HC0 rfl (by omega) (wanted_none rfl) (v := Value.int .i64 f) (fun wr hwr => by simp only [execOp, (F0.eval 1 (by omega)).trans (show _ = Value.int .i64 f from by simp [upd, ee0, ee1, ee3, ee6])]; first | rfl | simp [go_sem]) fun F1 => ?_
  refine lyp F1 rfl HC0 rfl (by omega) (wanted_none rfl) (v := Value.pointer (some ⟨g.rb, 0, none⟩)) (fun wr hwr => by simp only [execOp, (F1.eval 0 (by omega)).trans (show _ = Value.pointer (some ⟨g.rb, 0, none⟩) from by simp [upd, ee0, ee1, ee3, ee6])]; first | rfl | simp [go_sem]) fun F2 => ?_
  refine lyp F2 rfl HC0 rfl (by omega) (wanted_none rfl) (v := Value.pointer (some ⟨g.rb, 0, none⟩)) (fun wr hwr => by simp only [execOp, (F2.eval 9 (by omega)).trans (show _ = Value.pointer (some ⟨g.rb, 0, none⟩) from by simp [upd, ee0, ee1, ee3, ee6])]; simp [go_sem]) fun F3 => ?_
  refine lyp F3 rfl HC0 rfl (by omega) (wanted_none rfl) (v := Value.pointer (some ⟨g.rb, 0, none⟩)) (fun wr hwr => by simp only [execOp, (F3.eval 10 (by omega)).trans (show _ = Value.pointer (some ⟨g.rb, 0, none⟩) from by simp [upd, ee0, ee1, ee3, ee6])]; simp [go_sem]) fun F4 => ?_
  refine lyp F4 rfl HC0 rfl (by omega) (wanted_none rfl) (v := Value.int .i64 (me : Int)) (fun wr hwr => by simp only [execOp, (F4.eval 11 (by omega)).trans (show _ = Value.pointer (some ⟨g.rb, 0, none⟩) from by simp [upd, ee0, ee1, ee3, ee6])]; simp [go_sem, hwr.1]) fun F5 => ?_
  refine lyp F5 rfl HC0 rfl (by omega) (wanted_none rfl) (v := Value.bool false) (fun wr hwr => by simp only [execOp, (F5.eval 8 (by omega)).trans (show _ = Value.int .i64 f from by simp [upd, ee0, ee1, ee3, ee6]), (F5.eval 12 (by omega)).trans (show _ = Value.int .i64 (me : Int) from by simp [upd, ee0, ee1, ee3, ee6])]; simp [go_sem, Act.eval, g0]) fun F6 => ?_
  refine lyp F6 rfl HC0 rfl (by omega) (wanted_none rfl) (v := Value.bool false) (fun wr hwr => by simp only [execOp, (F6.eval 13 (by omega)).trans (show _ = Value.bool false from by simp [upd, ee0, ee1, ee3, ee6])]; first | rfl | simp [go_sem]) fun F7 => ?_
  refine lnp F7 rfl HC0 rfl (by omega) (want_no F7 rfl (e := 14) rfl (by omega) (show _ = Value.bool false from by simp [upd, ee0, ee1, ee3, ee6]) (by decide)) fun F8 => ?_
  refine lnp F8 rfl HC0 rfl (by omega) (want_no F8 rfl (e := 14) rfl (by omega) (show _ = Value.bool false from by simp [upd, ee0, ee1, ee3, ee6]) (by decide)) fun F9 => ?_
  refine lyp F9 rfl HC0 rfl (by omega) (wanted_none rfl) (v := Value.bool false) (fun wr hwr => by simp only [execOp, (F9.eval 14 (by omega)).trans (show _ = Value.bool false from by simp [upd, ee0, ee1, ee3, ee6])]; simp [go_sem, Act.eval]) fun F10 => ?_
  refine lyp F10 rfl HC0 rfl (by omega) (wanted_none rfl) (v := Value.bool false) (fun wr hwr => by simp only [execOp, (F10.eval 17 (by omega)).trans (show _ = Value.bool false from by simp [upd, ee0, ee1, ee3, ee6])]; first | rfl | simp [go_sem]) fun F11 => ?_
  refine lnp F11 rfl HC0 rfl (by omega) (want_no F11 rfl (e := 18) rfl (by omega) (show _ = Value.bool false from by simp [upd, ee0, ee1, ee3, ee6]) (by decide)) fun F12 => ?_
  refine lnp F12 rfl HC0 rfl (by omega) (want_no F12 rfl (e := 18) rfl (by omega) (show _ = Value.bool false from by simp [upd, ee0, ee1, ee3, ee6]) (by decide)) fun F13 => ?_
  refine lnp F13 rfl HC0 rfl (by omega) (want_no F13 rfl (e := 18) rfl (by omega) (show _ = Value.bool false from by simp [upd, ee0, ee1, ee3, ee6]) (by decide)) fun F14 => ?_
  refine lnp F14 rfl HC0 rfl (by omega) (want_no F14 rfl (e := 18) rfl (by omega) (show _ = Value.bool false from by simp [upd, ee0, ee1, ee3, ee6]) (by decide)) fun F15 => ?_
  refine lnp F15 rfl HC0 rfl (by omega) (want_no F15 rfl (e := 18) rfl (by omega) (show _ = Value.bool false from by simp [upd, ee0, ee1, ee3, ee6]) (by decide)) fun F16 => ?_
  refine lnp F16 rfl HC0 rfl (by omega) (want_no F16 rfl (e := 18) rfl (by omega) (show _ = Value.bool false from by simp [upd, ee0, ee1, ee3, ee6]) (by decide)) fun F17 => ?_
  refine lyp F17 rfl HC0 rfl (by omega) (wanted_none rfl) (v := Value.bool false) (fun wr hwr => by simp only [execOp, (F17.eval 18 (by omega)).trans (show _ = Value.bool false from by simp [upd, ee0, ee1, ee3, ee6])]; simp [go_sem, Act.eval]) fun F18 => ?_
  refine lyp F18 rfl HC0 rfl (by omega) (wanted_none rfl) (v := Value.bool false) (fun wr hwr => by simp only [execOp, (F18.eval 25 (by omega)).trans (show _ = Value.bool false from by simp [upd, ee0, ee1, ee3, ee6])]; first | rfl | simp [go_sem]) fun F19 => ?_
  refine lnp F19 rfl HC0 rfl (by omega) (want_no F19 rfl (e := 26) rfl (by omega) (show _ = Value.bool false from by simp [upd, ee0, ee1, ee3, ee6]) (by decide)) fun F20 => ?_
  refine lnp F20 rfl HC0 rfl (by omega) (want_no F20 rfl (e := 26) rfl (by omega) (show _ = Value.bool false from by simp [upd, ee0, ee1, ee3, ee6]) (by decide)) fun F21 => ?_
  refine lyp F21 rfl HC0 rfl (by omega) (wanted_none rfl) (v := Value.bool false) (fun wr hwr => by simp only [execOp, (F21.eval 26 (by omega)).trans (show _ = Value.bool false from by simp [upd, ee0, ee1, ee3, ee6])]; simp [go_sem, Act.eval]) fun F22 => ?_
  refine lyp F22 rfl HC0 rfl (by omega) (wanted_none rfl) (v := Value.bool false) (fun wr hwr => by simp only [execOp, (F22.eval 29 (by omega)).trans (show _ = Value.bool false from by simp [upd, ee0, ee1, ee3, ee6])]; first | rfl | simp [go_sem]) fun F23 => ?_
  refine lnp F23 rfl HC0 rfl (by omega) (want_no F23 rfl (e := 30) rfl (by omega) (show _ = Value.bool false from by simp [upd, ee0, ee1, ee3, ee6]) (by decide)) fun F24 => ?_
  refine lnp F24 rfl HC0 rfl (by omega) (want_no F24 rfl (e := 30) rfl (by omega) (show _ = Value.bool false from by simp [upd, ee0, ee1, ee3, ee6]) (by decide)) fun F25 => ?_
  refine lyp F25 rfl HC0 rfl (by omega) (wanted_none rfl) (v := Value.bool false) (fun wr hwr => by simp only [execOp, (F25.eval 30 (by omega)).trans (show _ = Value.bool false from by simp [upd, ee0, ee1, ee3, ee6])]; simp [go_sem, Act.eval]) fun F26 => ?_
  refine lyp F26 rfl HC0 rfl (by omega) (wanted_none rfl) (v := Value.bool false) (fun wr hwr => by simp only [execOp, (F26.eval 33 (by omega)).trans (show _ = Value.bool false from by simp [upd, ee0, ee1, ee3, ee6])]; first | rfl | simp [go_sem]) fun F27 => ?_
  refine lnp F27 rfl HC0 rfl (by omega) (want_no F27 rfl (e := 34) rfl (by omega) (show _ = Value.bool false from by simp [upd, ee0, ee1, ee3, ee6]) (by decide)) fun F28 => ?_
  refine lnp F28 rfl HC0 rfl (by omega) (want_no F28 rfl (e := 34) rfl (by omega) (show _ = Value.bool false from by simp [upd, ee0, ee1, ee3, ee6]) (by decide)) fun F29 => ?_
  refine lnp F29 rfl HC0 rfl (by omega) (want_no F29 rfl (e := 34) rfl (by omega) (show _ = Value.bool false from by simp [upd, ee0, ee1, ee3, ee6]) (by decide)) fun F30 => ?_
  refine lnp F30 rfl HC0 rfl (by omega) (want_no F30 rfl (e := 34) rfl (by omega) (show _ = Value.bool false from by simp [upd, ee0, ee1, ee3, ee6]) (by decide)) fun F31 => ?_
  refine lyp F31 rfl HC0 rfl (by omega) (wanted_none rfl) (v := Value.bool false) (fun wr hwr => by simp only [execOp, (F31.eval 34 (by omega)).trans (show _ = Value.bool false from by simp [upd, ee0, ee1, ee3, ee6])]; simp [go_sem, Act.eval]) fun F32 => ?_
  refine lyp F32 rfl HC0 rfl (by omega) (wanted_none rfl) (v := Value.bool false) (fun wr hwr => by simp only [execOp, (F32.eval 39 (by omega)).trans (show _ = Value.bool false from by simp [upd, ee0, ee1, ee3, ee6])]; first | rfl | simp [go_sem]) fun F33 => ?_
  refine lnp F33 rfl HC0 rfl (by omega) (want_no F33 rfl (e := 40) rfl (by omega) (show _ = Value.bool false from by simp [upd, ee0, ee1, ee3, ee6]) (by decide)) fun F34 => ?_
  refine lnp F34 rfl HC0 rfl (by omega) (want_no F34 rfl (e := 40) rfl (by omega) (show _ = Value.bool false from by simp [upd, ee0, ee1, ee3, ee6]) (by decide)) fun F35 => ?_
  refine lnp F35 rfl HC0 rfl (by omega) (want_no F35 rfl (e := 40) rfl (by omega) (show _ = Value.bool false from by simp [upd, ee0, ee1, ee3, ee6]) (by decide)) fun F36 => ?_
  refine lep F36 rfl HC0 rfl (by omega) (wanted_none rfl) (v := Value.bool false) (w1 := ({ W with drawn := W.drawn + 1 } : World)) (by simp only [execOp, (F36.eval 40 (by omega)).trans (show _ = Value.bool false from by simp [upd, ee0, ee1, ee3, ee6])]; simp [go_sem, Act.eval]) fun F37 => ?_
  refine ⟨fun h => by omega, ?_⟩
  refine hK _ _ ?_
  clear F0 F1 F2 F3 F4 F5 F6 F7 F8 F9 F10 F11 F12 F13 F14 F15 F16 F17 F18 F19 F20 F21 F22 F23 F24 F25 F26 F27 F28 F29 F30 F31 F32 F33 F34 F35 F36 F37 ee0 ee1 ee3 ee6 HC0
  simp only [Act.put, List.setIfInBounds_toArray, List.set_cons_succ, List.set_cons_zero]
  go_wp2_with fail
  exact end0n Try.results50 ⟨rfl, bgo HBW.out hDR (Nat.le_refl _)⟩
set_option maxRecDepth 100000 in
set_option maxHeartbeats 6400000 in
theorem rrep_1 {L me n : Nat} {g : RG} {x : EV} {r : RV} (f a b h er ek : Int) (w : World) (hM : RM L g r w) (ha : Agr x r) (hx : x.Nm) (hE : liveE x x.me = ⟨er, ek⟩) (hme : r.me = me) (hn : r.n = n) (g0 : (f != (me : Int)) = true) (g1 : ¬ 0 ≤ f) : Calls Try.prog 50 #[.pointer (some ⟨g.rb, 0, none⟩), .int .i64 f, .agg #[.int .i64 a, .int .i64 b], .int .i64 h] w fun e w' => e = .returned (.tuple #[]) ∧ Below w.heap.size w w' := by
  have HM : Hid _ := hM
  obtain ⟨W, hW⟩ : ∃ W, W = w.alloc (.cells #[.int .i64 a, .int .i64 b] 49) := ⟨_, rfl⟩
  have hB : Blk W w.heap.size #[.int .i64 a, .int .i64 b] 49 := by rw [hW]; exact heap_alloc_new w _
  have hbW : Below w.heap.size w W := by rw [hW]; exact (Below.refl _ _).alloc (Nat.le_refl _) _
  obtain ⟨p, hp⟩ : ∃ p, p = w.heap.size := ⟨_, rfl⟩
  rw [← hp] at hB
  have HQN : Hid (¬ rown g p) := show ¬ rown g p from fun hk => by have := (hM.lt hk).2; omega
  have HO : Hid (Calls Try.prog 46 #[.pointer (some ⟨g.rb, 0, none⟩)] W.drew fun e w' => e = .returned (epV ⟨er, ek⟩) ∧ Below W.drew.heap.size W.drew w') := show Calls _ _ _ _ _ from by rw [← hE]; exact rown_any W.drew (hM.more hbW.drew) ha hx
  have HCX : Hid (∀ W2, Below W.heap.size W W2 → W2.cell? ⟨g.rb, 0, none⟩ = some (.int .i64 (me : Int)) ∧ W2.cell? ⟨g.rb, 1, none⟩ = some (.int .i64 (n : Int)) ∧ Blk W2 p #[.int .i64 a, .int .i64 b] 49) := fun W2 h2 => ⟨by rw [← hme]; exact (hM.more (bgo hbW h2 (Nat.le_refl _))).c0, by rw [← hn]; exact (hM.more (bgo hbW h2 (Nat.le_refl _))).c1, hB.up h2⟩
  have HBW : Hid _ := hbW
  have HW : Hid _ := hW
  have HP : Hid _ := hp
  clear hM ha hx hE hme hn hB hbW
  unfold epV at *
  go_enter Try.func50, Try.ntmps50
  go_upto_region 1 with fail
  try rw [← HW.out]
  try rw [← HP.out]
  clear HW hW hp
  rename_i K hK
  try rw [show ∀ a : Act, a.put none undef = a from fun _ => rfl]
  have hDR : Below W.heap.size W ({ W with drawn := W.drawn + 1 } : World) := (Below.refl _ _).drew
  have HC0 : (fun wz : World => wz.cell? ⟨g.rb, 0, none⟩ = some (.int .i64 (me : Int)) ∧ wz.cell? ⟨g.rb, 1, none⟩ = some (.int .i64 (n : Int)) ∧ Blk wz p #[.int .i64 a, .int .i64 b] 49) ({ W with drawn := W.drawn + 1 } : World) := HCX.out _ hDR
  refine wp_region_mix (fun wz : World => wz.cell? ⟨g.rb, 0, none⟩ = some (.int .i64 (me : Int)) ∧ wz.cell? ⟨g.rb, 1, none⟩ = some (.int .i64 (n : Int)) ∧ Blk wz p #[.int .i64 a, .int .i64 b] 49) (fun i => i == 36) 36 (by kernel_rfl) rfl (by kernel_rfl) (by kernel_rfl) (by kernel_rfl) ?_
  refine withFrP (N := 58) rfl ?_
  intro f0 F0 hff
  have ee0 : f0 0 = Value.pointer (some ⟨g.rb, 0, none⟩) := hff 0
  have ee1 : f0 1 = Value.int .i64 f := hff 1
  have ee3 : f0 3 = Value.int .i64 h := hff 3
  have ee6 : f0 6 = Value.pointer (some ⟨p, 0, none⟩) := hff 6
  clear hff
  refine lyp F0 rfl HC0 rfl (by omega) (wanted_none rfl) (v := Value.int .i64 f) (fun wr hwr => by simp only [execOp, (F0.eval 1 (by omega)).trans (show _ = Value.int .i64 f from by simp [upd, ee0, ee1, ee3, ee6])]; first | rfl | simp [go_sem]) fun F1 => ?_
  refine lyp F1 rfl HC0 rfl (by omega) (wanted_none rfl) (v := Value.pointer (some ⟨g.rb, 0, none⟩)) (fun wr hwr => by simp only [execOp, (F1.eval 0 (by omega)).trans (show _ = Value.pointer (some ⟨g.rb, 0, none⟩) from by simp [upd, ee0, ee1, ee3, ee6])]; first | rfl | simp [go_sem]) fun F2 => ?_
  refine lyp F2 rfl HC0 rfl (by omega) (wanted_none rfl) (v := Value.pointer (some ⟨g.rb, 0, none⟩)) (fun wr hwr => by simp only [execOp, (F2.eval 9 (by omega)).trans (show _ = Value.pointer (some ⟨g.rb, 0, none⟩) from by simp [upd, ee0, ee1, ee3, ee6])]; simp [go_sem]) fun F3 => ?_
  refine lyp F3 rfl HC0 rfl (by omega) (wanted_none rfl) (v := Value.pointer (some ⟨g.rb, 0, none⟩)) (fun wr hwr => by simp only [execOp, (F3.eval 10 (by omega)).trans (show _ = Value.pointer (some ⟨g.rb, 0, none⟩) from by simp [upd, ee0, ee1, ee3, ee6])]; simp [go_sem]) fun F4 => ?_
  refine lyp F4 rfl HC0 rfl (by omega) (wanted_none rfl) (v := Value.int .i64 (me : Int)) (fun wr hwr => by simp only [execOp, (F4.eval 11 (by omega)).trans (show _ = Value.pointer (some ⟨g.rb, 0, none⟩) from by simp [upd, ee0, ee1, ee3, ee6])]; simp [go_sem, hwr.1]) fun F5 => ?_
  refine lyp F5 rfl HC0 rfl (by omega) (wanted_none rfl) (v := Value.bool true) (fun wr hwr => by simp only [execOp, (F5.eval 8 (by omega)).trans (show _ = Value.int .i64 f from by simp [upd, ee0, ee1, ee3, ee6]), (F5.eval 12 (by omega)).trans (show _ = Value.int .i64 (me : Int) from by simp [upd, ee0, ee1, ee3, ee6])]; simp [go_sem, Act.eval, g0]) fun F6 => ?_
  refine lyp F6 rfl HC0 rfl (by omega) (wanted_none rfl) (v := Value.bool true) (fun wr hwr => by simp only [execOp, (F6.eval 13 (by omega)).trans (show _ = Value.bool true from by simp [upd, ee0, ee1, ee3, ee6])]; first | rfl | simp [go_sem]) fun F7 => ?_
  refine lyp F7 rfl HC0 rfl (by omega) (want_yes F7 rfl (e := 14) rfl (by omega) (show _ = Value.bool true from by simp [upd, ee0, ee1, ee3, ee6])) (v := Value.int .i64 f) (fun wr hwr => by simp only [execOp, (F7.eval 1 (by omega)).trans (show _ = Value.int .i64 f from by simp [upd, ee0, ee1, ee3, ee6])]; first | rfl | simp [go_sem]) fun F8 => ?_
  refine lyp F8 rfl HC0 rfl (by omega) (want_yes F8 rfl (e := 14) rfl (by omega) (show _ = Value.bool true from by simp [upd, ee0, ee1, ee3, ee6])) (v := Value.bool false) (fun wr hwr => by simp only [execOp, (F8.eval 15 (by omega)).trans (show _ = Value.int .i64 f from by simp [upd, ee0, ee1, ee3, ee6])]; simp [go_sem, Act.eval, g1]) fun F9 => ?_
  refine lyp F9 rfl HC0 rfl (by omega) (wanted_none rfl) (v := Value.bool false) (fun wr hwr => by simp only [execOp, (F9.eval 14 (by omega)).trans (show _ = Value.bool true from by simp [upd, ee0, ee1, ee3, ee6]), (F9.eval 16 (by omega)).trans (show _ = Value.bool false from by simp [upd, ee0, ee1, ee3, ee6])]; simp [go_sem, Act.eval]) fun F10 => ?_
  refine lyp F10 rfl HC0 rfl (by omega) (wanted_none rfl) (v := Value.bool false) (fun wr hwr => by simp only [execOp, (F10.eval 17 (by omega)).trans (show _ = Value.bool false from by simp [upd, ee0, ee1, ee3, ee6])]; first | rfl | simp [go_sem]) fun F11 => ?_
  refine lnp F11 rfl HC0 rfl (by omega) (want_no F11 rfl (e := 18) rfl (by omega) (show _ = Value.bool false from by simp [upd, ee0, ee1, ee3, ee6]) (by decide)) fun F12 => ?_
  refine lnp F12 rfl HC0 rfl (by omega) (want_no F12 rfl (e := 18) rfl (by omega) (show _ = Value.bool false from by simp [upd, ee0, ee1, ee3, ee6]) (by decide)) fun F13 => ?_
  refine lnp F13 rfl HC0 rfl (by omega) (want_no F13 rfl (e := 18) rfl (by omega) (show _ = Value.bool false from by simp [upd, ee0, ee1, ee3, ee6]) (by decide)) fun F14 => ?_
  refine lnp F14 rfl HC0 rfl (by omega) (want_no F14 rfl (e := 18) rfl (by omega) (show _ = Value.bool false from by simp [upd, ee0, ee1, ee3, ee6]) (by decide)) fun F15 => ?_
  refine lnp F15 rfl HC0 rfl (by omega) (want_no F15 rfl (e := 18) rfl (by omega) (show _ = Value.bool false from by simp [upd, ee0, ee1, ee3, ee6]) (by decide)) fun F16 => ?_
  refine lnp F16 rfl HC0 rfl (by omega) (want_no F16 rfl (e := 18) rfl (by omega) (show _ = Value.bool false from by simp [upd, ee0, ee1, ee3, ee6]) (by decide)) fun F17 => ?_
  refine lyp F17 rfl HC0 rfl (by omega) (wanted_none rfl) (v := Value.bool false) (fun wr hwr => by simp only [execOp, (F17.eval 18 (by omega)).trans (show _ = Value.bool false from by simp [upd, ee0, ee1, ee3, ee6])]; simp [go_sem, Act.eval]) fun F18 => ?_
  refine lyp F18 rfl HC0 rfl (by omega) (wanted_none rfl) (v := Value.bool false) (fun wr hwr => by simp only [execOp, (F18.eval 25 (by omega)).trans (show _ = Value.bool false from by simp [upd, ee0, ee1, ee3, ee6])]; first | rfl | simp [go_sem]) fun F19 => ?_
  refine lnp F19 rfl HC0 rfl (by omega) (want_no F19 rfl (e := 26) rfl (by omega) (show _ = Value.bool false from by simp [upd, ee0, ee1, ee3, ee6]) (by decide)) fun F20 => ?_
  refine lnp F20 rfl HC0 rfl (by omega) (want_no F20 rfl (e := 26) rfl (by omega) (show _ = Value.bool false from by simp [upd, ee0, ee1, ee3, ee6]) (by decide)) fun F21 => ?_
  refine lyp F21 rfl HC0 rfl (by omega) (wanted_none rfl) (v := Value.bool false) (fun wr hwr => by simp only [execOp, (F21.eval 26 (by omega)).trans (show _ = Value.bool false from by simp [upd, ee0, ee1, ee3, ee6])]; simp [go_sem, Act.eval]) fun F22 => ?_
  refine lyp F22 rfl HC0 rfl (by omega) (wanted_none rfl) (v := Value.bool false) (fun wr hwr => by simp only [execOp, (F22.eval 29 (by omega)).trans (show _ = Value.bool false from by simp [upd, ee0, ee1, ee3, ee6])]; first | rfl | simp [go_sem]) fun F23 => ?_
  refine lnp F23 rfl HC0 rfl (by omega) (want_no F23 rfl (e := 30) rfl (by omega) (show _ = Value.bool false from by simp [upd, ee0, ee1, ee3, ee6]) (by decide)) fun F24 => ?_
  refine lnp F24 rfl HC0 rfl (by omega) (want_no F24 rfl (e := 30) rfl (by omega) (show _ = Value.bool false from by simp [upd, ee0, ee1, ee3, ee6]) (by decide)) fun F25 => ?_
  refine lyp F25 rfl HC0 rfl (by omega) (wanted_none rfl) (v := Value.bool false) (fun wr hwr => by simp only [execOp, (F25.eval 30 (by omega)).trans (show _ = Value.bool false from by simp [upd, ee0, ee1, ee3, ee6])]; simp [go_sem, Act.eval]) fun F26 => ?_
  refine lyp F26 rfl HC0 rfl (by omega) (wanted_none rfl) (v := Value.bool false) (fun wr hwr => by simp only [execOp, (F26.eval 33 (by omega)).trans (show _ = Value.bool false from by simp [upd, ee0, ee1, ee3, ee6])]; first | rfl | simp [go_sem]) fun F27 => ?_
  refine lnp F27 rfl HC0 rfl (by omega) (want_no F27 rfl (e := 34) rfl (by omega) (show _ = Value.bool false from by simp [upd, ee0, ee1, ee3, ee6]) (by decide)) fun F28 => ?_
  refine lnp F28 rfl HC0 rfl (by omega) (want_no F28 rfl (e := 34) rfl (by omega) (show _ = Value.bool false from by simp [upd, ee0, ee1, ee3, ee6]) (by decide)) fun F29 => ?_
  refine lnp F29 rfl HC0 rfl (by omega) (want_no F29 rfl (e := 34) rfl (by omega) (show _ = Value.bool false from by simp [upd, ee0, ee1, ee3, ee6]) (by decide)) fun F30 => ?_
  refine lnp F30 rfl HC0 rfl (by omega) (want_no F30 rfl (e := 34) rfl (by omega) (show _ = Value.bool false from by simp [upd, ee0, ee1, ee3, ee6]) (by decide)) fun F31 => ?_
  refine lyp F31 rfl HC0 rfl (by omega) (wanted_none rfl) (v := Value.bool false) (fun wr hwr => by simp only [execOp, (F31.eval 34 (by omega)).trans (show _ = Value.bool false from by simp [upd, ee0, ee1, ee3, ee6])]; simp [go_sem, Act.eval]) fun F32 => ?_
  refine lyp F32 rfl HC0 rfl (by omega) (wanted_none rfl) (v := Value.bool false) (fun wr hwr => by simp only [execOp, (F32.eval 39 (by omega)).trans (show _ = Value.bool false from by simp [upd, ee0, ee1, ee3, ee6])]; first | rfl | simp [go_sem]) fun F33 => ?_
  refine lnp F33 rfl HC0 rfl (by omega) (want_no F33 rfl (e := 40) rfl (by omega) (show _ = Value.bool false from by simp [upd, ee0, ee1, ee3, ee6]) (by decide)) fun F34 => ?_
  refine lnp F34 rfl HC0 rfl (by omega) (want_no F34 rfl (e := 40) rfl (by omega) (show _ = Value.bool false from by simp [upd, ee0, ee1, ee3, ee6]) (by decide)) fun F35 => ?_
  refine lnp F35 rfl HC0 rfl (by omega) (want_no F35 rfl (e := 40) rfl (by omega) (show _ = Value.bool false from by simp [upd, ee0, ee1, ee3, ee6]) (by decide)) fun F36 => ?_
  refine lep F36 rfl HC0 rfl (by omega) (wanted_none rfl) (v := Value.bool false) (w1 := ({ W with drawn := W.drawn + 1 } : World)) (by simp only [execOp, (F36.eval 40 (by omega)).trans (show _ = Value.bool false from by simp [upd, ee0, ee1, ee3, ee6])]; simp [go_sem, Act.eval]) fun F37 => ?_
  refine ⟨fun h => by omega, ?_⟩
  refine hK _ _ ?_
  clear F0 F1 F2 F3 F4 F5 F6 F7 F8 F9 F10 F11 F12 F13 F14 F15 F16 F17 F18 F19 F20 F21 F22 F23 F24 F25 F26 F27 F28 F29 F30 F31 F32 F33 F34 F35 F36 F37 ee0 ee1 ee3 ee6 HC0
  simp only [Act.put, List.setIfInBounds_toArray, List.set_cons_succ, List.set_cons_zero]
  go_wp2_with fail
  exact end0n Try.results50 ⟨rfl, bgo HBW.out hDR (Nat.le_refl _)⟩
set_option maxRecDepth 100000 in
set_option maxHeartbeats 6400000 in
theorem rrep_2 {L me n : Nat} {g : RG} {x : EV} {r : RV} (f a b h er ek : Int) (w : World) (hM : RM L g r w) (ha : Agr x r) (hx : x.Nm) (hE : liveE x x.me = ⟨er, ek⟩) (hme : r.me = me) (hn : r.n = n) (g0 : (f != (me : Int)) = true) (g1 : 0 ≤ f) (g2 : ¬ f < (n : Int)) : Calls Try.prog 50 #[.pointer (some ⟨g.rb, 0, none⟩), .int .i64 f, .agg #[.int .i64 a, .int .i64 b], .int .i64 h] w fun e w' => e = .returned (.tuple #[]) ∧ Below w.heap.size w w' := by
  have HM : Hid _ := hM
  obtain ⟨W, hW⟩ : ∃ W, W = w.alloc (.cells #[.int .i64 a, .int .i64 b] 49) := ⟨_, rfl⟩
  have hB : Blk W w.heap.size #[.int .i64 a, .int .i64 b] 49 := by rw [hW]; exact heap_alloc_new w _
  have hbW : Below w.heap.size w W := by rw [hW]; exact (Below.refl _ _).alloc (Nat.le_refl _) _
  obtain ⟨p, hp⟩ : ∃ p, p = w.heap.size := ⟨_, rfl⟩
  rw [← hp] at hB
  have HQN : Hid (¬ rown g p) := show ¬ rown g p from fun hk => by have := (hM.lt hk).2; omega
  have HO : Hid (Calls Try.prog 46 #[.pointer (some ⟨g.rb, 0, none⟩)] W.drew fun e w' => e = .returned (epV ⟨er, ek⟩) ∧ Below W.drew.heap.size W.drew w') := show Calls _ _ _ _ _ from by rw [← hE]; exact rown_any W.drew (hM.more hbW.drew) ha hx
  have HCX : Hid (∀ W2, Below W.heap.size W W2 → W2.cell? ⟨g.rb, 0, none⟩ = some (.int .i64 (me : Int)) ∧ W2.cell? ⟨g.rb, 1, none⟩ = some (.int .i64 (n : Int)) ∧ Blk W2 p #[.int .i64 a, .int .i64 b] 49) := fun W2 h2 => ⟨by rw [← hme]; exact (hM.more (bgo hbW h2 (Nat.le_refl _))).c0, by rw [← hn]; exact (hM.more (bgo hbW h2 (Nat.le_refl _))).c1, hB.up h2⟩
  have HBW : Hid _ := hbW
  have HW : Hid _ := hW
  have HP : Hid _ := hp
  clear hM ha hx hE hme hn hB hbW
  unfold epV at *
  go_enter Try.func50, Try.ntmps50
  go_upto_region 1 with fail
  try rw [← HW.out]
  try rw [← HP.out]
  clear HW hW hp
  rename_i K hK
  try rw [show ∀ a : Act, a.put none undef = a from fun _ => rfl]
  have hDR : Below W.heap.size W ({ W with drawn := W.drawn + 1 } : World) := (Below.refl _ _).drew
  have HC0 : (fun wz : World => wz.cell? ⟨g.rb, 0, none⟩ = some (.int .i64 (me : Int)) ∧ wz.cell? ⟨g.rb, 1, none⟩ = some (.int .i64 (n : Int)) ∧ Blk wz p #[.int .i64 a, .int .i64 b] 49) ({ W with drawn := W.drawn + 1 } : World) := HCX.out _ hDR
  refine wp_region_mix (fun wz : World => wz.cell? ⟨g.rb, 0, none⟩ = some (.int .i64 (me : Int)) ∧ wz.cell? ⟨g.rb, 1, none⟩ = some (.int .i64 (n : Int)) ∧ Blk wz p #[.int .i64 a, .int .i64 b] 49) (fun i => i == 36) 36 (by kernel_rfl) rfl (by kernel_rfl) (by kernel_rfl) (by kernel_rfl) ?_
  refine withFrP (N := 58) rfl ?_
  intro f0 F0 hff
  have ee0 : f0 0 = Value.pointer (some ⟨g.rb, 0, none⟩) := hff 0
  have ee1 : f0 1 = Value.int .i64 f := hff 1
  have ee3 : f0 3 = Value.int .i64 h := hff 3
  have ee6 : f0 6 = Value.pointer (some ⟨p, 0, none⟩) := hff 6
  clear hff
  refine lyp F0 rfl HC0 rfl (by omega) (wanted_none rfl) (v := Value.int .i64 f) (fun wr hwr => by simp only [execOp, (F0.eval 1 (by omega)).trans (show _ = Value.int .i64 f from by simp [upd, ee0, ee1, ee3, ee6])]; first | rfl | simp [go_sem]) fun F1 => ?_
  refine lyp F1 rfl HC0 rfl (by omega) (wanted_none rfl) (v := Value.pointer (some ⟨g.rb, 0, none⟩)) (fun wr hwr => by simp only [execOp, (F1.eval 0 (by omega)).trans (show _ = Value.pointer (some ⟨g.rb, 0, none⟩) from by simp [upd, ee0, ee1, ee3, ee6])]; first | rfl | simp [go_sem]) fun F2 => ?_
  refine lyp F2 rfl HC0 rfl (by omega) (wanted_none rfl) (v := Value.pointer (some ⟨g.rb, 0, none⟩)) (fun wr hwr => by simp only [execOp, (F2.eval 9 (by omega)).trans (show _ = Value.pointer (some ⟨g.rb, 0, none⟩) from by simp [upd, ee0, ee1, ee3, ee6])]; simp [go_sem]) fun F3 => ?_
  refine lyp F3 rfl HC0 rfl (by omega) (wanted_none rfl) (v := Value.pointer (some ⟨g.rb, 0, none⟩)) (fun wr hwr => by simp only [execOp, (F3.eval 10 (by omega)).trans (show _ = Value.pointer (some ⟨g.rb, 0, none⟩) from by simp [upd, ee0, ee1, ee3, ee6])]; simp [go_sem]) fun F4 => ?_
  refine lyp F4 rfl HC0 rfl (by omega) (wanted_none rfl) (v := Value.int .i64 (me : Int)) (fun wr hwr => by simp only [execOp, (F4.eval 11 (by omega)).trans (show _ = Value.pointer (some ⟨g.rb, 0, none⟩) from by simp [upd, ee0, ee1, ee3, ee6])]; simp [go_sem, hwr.1]) fun F5 => ?_
  refine lyp F5 rfl HC0 rfl (by omega) (wanted_none rfl) (v := Value.bool true) (fun wr hwr => by simp only [execOp, (F5.eval 8 (by omega)).trans (show _ = Value.int .i64 f from by simp [upd, ee0, ee1, ee3, ee6]), (F5.eval 12 (by omega)).trans (show _ = Value.int .i64 (me : Int) from by simp [upd, ee0, ee1, ee3, ee6])]; simp [go_sem, Act.eval, g0]) fun F6 => ?_
  refine lyp F6 rfl HC0 rfl (by omega) (wanted_none rfl) (v := Value.bool true) (fun wr hwr => by simp only [execOp, (F6.eval 13 (by omega)).trans (show _ = Value.bool true from by simp [upd, ee0, ee1, ee3, ee6])]; first | rfl | simp [go_sem]) fun F7 => ?_
  refine lyp F7 rfl HC0 rfl (by omega) (want_yes F7 rfl (e := 14) rfl (by omega) (show _ = Value.bool true from by simp [upd, ee0, ee1, ee3, ee6])) (v := Value.int .i64 f) (fun wr hwr => by simp only [execOp, (F7.eval 1 (by omega)).trans (show _ = Value.int .i64 f from by simp [upd, ee0, ee1, ee3, ee6])]; first | rfl | simp [go_sem]) fun F8 => ?_
  refine lyp F8 rfl HC0 rfl (by omega) (want_yes F8 rfl (e := 14) rfl (by omega) (show _ = Value.bool true from by simp [upd, ee0, ee1, ee3, ee6])) (v := Value.bool true) (fun wr hwr => by simp only [execOp, (F8.eval 15 (by omega)).trans (show _ = Value.int .i64 f from by simp [upd, ee0, ee1, ee3, ee6])]; simp [go_sem, Act.eval, g1]) fun F9 => ?_
  refine lyp F9 rfl HC0 rfl (by omega) (wanted_none rfl) (v := Value.bool true) (fun wr hwr => by simp only [execOp, (F9.eval 14 (by omega)).trans (show _ = Value.bool true from by simp [upd, ee0, ee1, ee3, ee6]), (F9.eval 16 (by omega)).trans (show _ = Value.bool true from by simp [upd, ee0, ee1, ee3, ee6])]; simp [go_sem, Act.eval]) fun F10 => ?_
  refine lyp F10 rfl HC0 rfl (by omega) (wanted_none rfl) (v := Value.bool true) (fun wr hwr => by simp only [execOp, (F10.eval 17 (by omega)).trans (show _ = Value.bool true from by simp [upd, ee0, ee1, ee3, ee6])]; first | rfl | simp [go_sem]) fun F11 => ?_
  refine lyp F11 rfl HC0 rfl (by omega) (want_yes F11 rfl (e := 18) rfl (by omega) (show _ = Value.bool true from by simp [upd, ee0, ee1, ee3, ee6])) (v := Value.int .i64 f) (fun wr hwr => by simp only [execOp, (F11.eval 1 (by omega)).trans (show _ = Value.int .i64 f from by simp [upd, ee0, ee1, ee3, ee6])]; first | rfl | simp [go_sem]) fun F12 => ?_
  refine lyp F12 rfl HC0 rfl (by omega) (want_yes F12 rfl (e := 18) rfl (by omega) (show _ = Value.bool true from by simp [upd, ee0, ee1, ee3, ee6])) (v := Value.pointer (some ⟨g.rb, 0, none⟩)) (fun wr hwr => by simp only [execOp, (F12.eval 0 (by omega)).trans (show _ = Value.pointer (some ⟨g.rb, 0, none⟩) from by simp [upd, ee0, ee1, ee3, ee6])]; first | rfl | simp [go_sem]) fun F13 => ?_
  refine lyp F13 rfl HC0 rfl (by omega) (want_yes F13 rfl (e := 18) rfl (by omega) (show _ = Value.bool true from by simp [upd, ee0, ee1, ee3, ee6])) (v := Value.pointer (some ⟨g.rb, 0, none⟩)) (fun wr hwr => by simp only [execOp, (F13.eval 20 (by omega)).trans (show _ = Value.pointer (some ⟨g.rb, 0, none⟩) from by simp [upd, ee0, ee1, ee3, ee6])]; simp [go_sem]) fun F14 => ?_
  refine lyp F14 rfl HC0 rfl (by omega) (want_yes F14 rfl (e := 18) rfl (by omega) (show _ = Value.bool true from by simp [upd, ee0, ee1, ee3, ee6])) (v := Value.pointer (some ⟨g.rb, 1, none⟩)) (fun wr hwr => by simp only [execOp, (F14.eval 21 (by omega)).trans (show _ = Value.pointer (some ⟨g.rb, 0, none⟩) from by simp [upd, ee0, ee1, ee3, ee6])]; simp [go_sem]) fun F15 => ?_
  refine lyp F15 rfl HC0 rfl (by omega) (want_yes F15 rfl (e := 18) rfl (by omega) (show _ = Value.bool true from by simp [upd, ee0, ee1, ee3, ee6])) (v := Value.int .i64 (n : Int)) (fun wr hwr => by simp only [execOp, (F15.eval 22 (by omega)).trans (show _ = Value.pointer (some ⟨g.rb, 1, none⟩) from by simp [upd, ee0, ee1, ee3, ee6])]; simp [go_sem, hwr.2.1]) fun F16 => ?_
  refine lyp F16 rfl HC0 rfl (by omega) (want_yes F16 rfl (e := 18) rfl (by omega) (show _ = Value.bool true from by simp [upd, ee0, ee1, ee3, ee6])) (v := Value.bool false) (fun wr hwr => by simp only [execOp, (F16.eval 19 (by omega)).trans (show _ = Value.int .i64 f from by simp [upd, ee0, ee1, ee3, ee6]), (F16.eval 23 (by omega)).trans (show _ = Value.int .i64 (n : Int) from by simp [upd, ee0, ee1, ee3, ee6])]; simp [go_sem, Act.eval, g2]) fun F17 => ?_
  refine lyp F17 rfl HC0 rfl (by omega) (wanted_none rfl) (v := Value.bool false) (fun wr hwr => by simp only [execOp, (F17.eval 18 (by omega)).trans (show _ = Value.bool true from by simp [upd, ee0, ee1, ee3, ee6]), (F17.eval 24 (by omega)).trans (show _ = Value.bool false from by simp [upd, ee0, ee1, ee3, ee6])]; simp [go_sem, Act.eval]) fun F18 => ?_
  refine lyp F18 rfl HC0 rfl (by omega) (wanted_none rfl) (v := Value.bool false) (fun wr hwr => by simp only [execOp, (F18.eval 25 (by omega)).trans (show _ = Value.bool false from by simp [upd, ee0, ee1, ee3, ee6])]; first | rfl | simp [go_sem]) fun F19 => ?_
  refine lnp F19 rfl HC0 rfl (by omega) (want_no F19 rfl (e := 26) rfl (by omega) (show _ = Value.bool false from by simp [upd, ee0, ee1, ee3, ee6]) (by decide)) fun F20 => ?_
  refine lnp F20 rfl HC0 rfl (by omega) (want_no F20 rfl (e := 26) rfl (by omega) (show _ = Value.bool false from by simp [upd, ee0, ee1, ee3, ee6]) (by decide)) fun F21 => ?_
  refine lyp F21 rfl HC0 rfl (by omega) (wanted_none rfl) (v := Value.bool false) (fun wr hwr => by simp only [execOp, (F21.eval 26 (by omega)).trans (show _ = Value.bool false from by simp [upd, ee0, ee1, ee3, ee6])]; simp [go_sem, Act.eval]) fun F22 => ?_
  refine lyp F22 rfl HC0 rfl (by omega) (wanted_none rfl) (v := Value.bool false) (fun wr hwr => by simp only [execOp, (F22.eval 29 (by omega)).trans (show _ = Value.bool false from by simp [upd, ee0, ee1, ee3, ee6])]; first | rfl | simp [go_sem]) fun F23 => ?_
  refine lnp F23 rfl HC0 rfl (by omega) (want_no F23 rfl (e := 30) rfl (by omega) (show _ = Value.bool false from by simp [upd, ee0, ee1, ee3, ee6]) (by decide)) fun F24 => ?_
  refine lnp F24 rfl HC0 rfl (by omega) (want_no F24 rfl (e := 30) rfl (by omega) (show _ = Value.bool false from by simp [upd, ee0, ee1, ee3, ee6]) (by decide)) fun F25 => ?_
  refine lyp F25 rfl HC0 rfl (by omega) (wanted_none rfl) (v := Value.bool false) (fun wr hwr => by simp only [execOp, (F25.eval 30 (by omega)).trans (show _ = Value.bool false from by simp [upd, ee0, ee1, ee3, ee6])]; simp [go_sem, Act.eval]) fun F26 => ?_
  refine lyp F26 rfl HC0 rfl (by omega) (wanted_none rfl) (v := Value.bool false) (fun wr hwr => by simp only [execOp, (F26.eval 33 (by omega)).trans (show _ = Value.bool false from by simp [upd, ee0, ee1, ee3, ee6])]; first | rfl | simp [go_sem]) fun F27 => ?_
  refine lnp F27 rfl HC0 rfl (by omega) (want_no F27 rfl (e := 34) rfl (by omega) (show _ = Value.bool false from by simp [upd, ee0, ee1, ee3, ee6]) (by decide)) fun F28 => ?_
  refine lnp F28 rfl HC0 rfl (by omega) (want_no F28 rfl (e := 34) rfl (by omega) (show _ = Value.bool false from by simp [upd, ee0, ee1, ee3, ee6]) (by decide)) fun F29 => ?_
  refine lnp F29 rfl HC0 rfl (by omega) (want_no F29 rfl (e := 34) rfl (by omega) (show _ = Value.bool false from by simp [upd, ee0, ee1, ee3, ee6]) (by decide)) fun F30 => ?_
  refine lnp F30 rfl HC0 rfl (by omega) (want_no F30 rfl (e := 34) rfl (by omega) (show _ = Value.bool false from by simp [upd, ee0, ee1, ee3, ee6]) (by decide)) fun F31 => ?_
  refine lyp F31 rfl HC0 rfl (by omega) (wanted_none rfl) (v := Value.bool false) (fun wr hwr => by simp only [execOp, (F31.eval 34 (by omega)).trans (show _ = Value.bool false from by simp [upd, ee0, ee1, ee3, ee6])]; simp [go_sem, Act.eval]) fun F32 => ?_
  refine lyp F32 rfl HC0 rfl (by omega) (wanted_none rfl) (v := Value.bool false) (fun wr hwr => by simp only [execOp, (F32.eval 39 (by omega)).trans (show _ = Value.bool false from by simp [upd, ee0, ee1, ee3, ee6])]; first | rfl | simp [go_sem]) fun F33 => ?_
  refine lnp F33 rfl HC0 rfl (by omega) (want_no F33 rfl (e := 40) rfl (by omega) (show _ = Value.bool false from by simp [upd, ee0, ee1, ee3, ee6]) (by decide)) fun F34 => ?_
  refine lnp F34 rfl HC0 rfl (by omega) (want_no F34 rfl (e := 40) rfl (by omega) (show _ = Value.bool false from by simp [upd, ee0, ee1, ee3, ee6]) (by decide)) fun F35 => ?_
  refine lnp F35 rfl HC0 rfl (by omega) (want_no F35 rfl (e := 40) rfl (by omega) (show _ = Value.bool false from by simp [upd, ee0, ee1, ee3, ee6]) (by decide)) fun F36 => ?_
  refine lep F36 rfl HC0 rfl (by omega) (wanted_none rfl) (v := Value.bool false) (w1 := ({ W with drawn := W.drawn + 1 } : World)) (by simp only [execOp, (F36.eval 40 (by omega)).trans (show _ = Value.bool false from by simp [upd, ee0, ee1, ee3, ee6])]; simp [go_sem, Act.eval]) fun F37 => ?_
  refine ⟨fun h => by omega, ?_⟩
  refine hK _ _ ?_
  clear F0 F1 F2 F3 F4 F5 F6 F7 F8 F9 F10 F11 F12 F13 F14 F15 F16 F17 F18 F19 F20 F21 F22 F23 F24 F25 F26 F27 F28 F29 F30 F31 F32 F33 F34 F35 F36 F37 ee0 ee1 ee3 ee6 HC0
  simp only [Act.put, List.setIfInBounds_toArray, List.set_cons_succ, List.set_cons_zero]
  go_wp2_with fail
  exact end0n Try.results50 ⟨rfl, bgo HBW.out hDR (Nat.le_refl _)⟩
set_option maxRecDepth 100000 in
set_option maxHeartbeats 6400000 in
theorem rrep_3 {L me n : Nat} {g : RG} {x : EV} {r : RV} (f a b h er ek : Int) (w : World) (hM : RM L g r w) (ha : Agr x r) (hx : x.Nm) (hE : liveE x x.me = ⟨er, ek⟩) (hme : r.me = me) (hn : r.n = n) (g0 : (f != (me : Int)) = true) (g1 : 0 ≤ f) (g2 : f < (n : Int)) (g3 : ¬ 0 ≤ h) : Calls Try.prog 50 #[.pointer (some ⟨g.rb, 0, none⟩), .int .i64 f, .agg #[.int .i64 a, .int .i64 b], .int .i64 h] w fun e w' => e = .returned (.tuple #[]) ∧ Below w.heap.size w w' := by
  have HM : Hid _ := hM
  obtain ⟨W, hW⟩ : ∃ W, W = w.alloc (.cells #[.int .i64 a, .int .i64 b] 49) := ⟨_, rfl⟩
  have hB : Blk W w.heap.size #[.int .i64 a, .int .i64 b] 49 := by rw [hW]; exact heap_alloc_new w _
  have hbW : Below w.heap.size w W := by rw [hW]; exact (Below.refl _ _).alloc (Nat.le_refl _) _
  obtain ⟨p, hp⟩ : ∃ p, p = w.heap.size := ⟨_, rfl⟩
  rw [← hp] at hB
  have HQN : Hid (¬ rown g p) := show ¬ rown g p from fun hk => by have := (hM.lt hk).2; omega
  have HO : Hid (Calls Try.prog 46 #[.pointer (some ⟨g.rb, 0, none⟩)] W.drew fun e w' => e = .returned (epV ⟨er, ek⟩) ∧ Below W.drew.heap.size W.drew w') := show Calls _ _ _ _ _ from by rw [← hE]; exact rown_any W.drew (hM.more hbW.drew) ha hx
  have HCX : Hid (∀ W2, Below W.heap.size W W2 → W2.cell? ⟨g.rb, 0, none⟩ = some (.int .i64 (me : Int)) ∧ W2.cell? ⟨g.rb, 1, none⟩ = some (.int .i64 (n : Int)) ∧ Blk W2 p #[.int .i64 a, .int .i64 b] 49) := fun W2 h2 => ⟨by rw [← hme]; exact (hM.more (bgo hbW h2 (Nat.le_refl _))).c0, by rw [← hn]; exact (hM.more (bgo hbW h2 (Nat.le_refl _))).c1, hB.up h2⟩
  have HBW : Hid _ := hbW
  have HW : Hid _ := hW
  have HP : Hid _ := hp
  clear hM ha hx hE hme hn hB hbW
  unfold epV at *
  go_enter Try.func50, Try.ntmps50
  go_upto_region 1 with fail
  try rw [← HW.out]
  try rw [← HP.out]
  clear HW hW hp
  rename_i K hK
  try rw [show ∀ a : Act, a.put none undef = a from fun _ => rfl]
  have hDR : Below W.heap.size W ({ W with drawn := W.drawn + 1 } : World) := (Below.refl _ _).drew
  have HC0 : (fun wz : World => wz.cell? ⟨g.rb, 0, none⟩ = some (.int .i64 (me : Int)) ∧ wz.cell? ⟨g.rb, 1, none⟩ = some (.int .i64 (n : Int)) ∧ Blk wz p #[.int .i64 a, .int .i64 b] 49) ({ W with drawn := W.drawn + 1 } : World) := HCX.out _ hDR
  refine wp_region_mix (fun wz : World => wz.cell? ⟨g.rb, 0, none⟩ = some (.int .i64 (me : Int)) ∧ wz.cell? ⟨g.rb, 1, none⟩ = some (.int .i64 (n : Int)) ∧ Blk wz p #[.int .i64 a, .int .i64 b] 49) (fun i => i == 36) 36 (by kernel_rfl) rfl (by kernel_rfl) (by kernel_rfl) (by kernel_rfl) ?_
  refine withFrP (N := 58) rfl ?_
  intro f0 F0 hff
  have ee0 : f0 0 = Value.pointer (some ⟨g.rb, 0, none⟩) := hff 0
  have ee1 : f0 1 = Value.int .i64 f := hff 1
  have ee3 : f0 3 = Value.int .i64 h := hff 3
  have ee6 : f0 6 = Value.pointer (some ⟨p, 0, none⟩) := hff 6
  clear hff
  refine lyp F0 rfl HC0 rfl (by omega) (wanted_none rfl) (v := Value.int .i64 f) (fun wr hwr => by simp only [execOp, (F0.eval 1 (by omega)).trans (show _ = Value.int .i64 f from by simp [upd, ee0, ee1, ee3, ee6])]; first | rfl | simp [go_sem]) fun F1 => ?_
  refine lyp F1 rfl HC0 rfl (by omega) (wanted_none rfl) (v := Value.pointer (some ⟨g.rb, 0, none⟩)) (fun wr hwr => by simp only [execOp, (F1.eval 0 (by omega)).trans (show _ = Value.pointer (some ⟨g.rb, 0, none⟩) from by simp [upd, ee0, ee1, ee3, ee6])]; first | rfl | simp [go_sem]) fun F2 => ?_
  refine lyp F2 rfl HC0 rfl (by omega) (wanted_none rfl) (v := Value.pointer (some ⟨g.rb, 0, none⟩)) (fun wr hwr => by simp only [execOp, (F2.eval 9 (by omega)).trans (show _ = Value.pointer (some ⟨g.rb, 0, none⟩) from by simp [upd, ee0, ee1, ee3, ee6])]; simp [go_sem]) fun F3 => ?_
  refine lyp F3 rfl HC0 rfl (by omega) (wanted_none rfl) (v := Value.pointer (some ⟨g.rb, 0, none⟩)) (fun wr hwr => by simp only [execOp, (F3.eval 10 (by omega)).trans (show _ = Value.pointer (some ⟨g.rb, 0, none⟩) from by simp [upd, ee0, ee1, ee3, ee6])]; simp [go_sem]) fun F4 => ?_
  refine lyp F4 rfl HC0 rfl (by omega) (wanted_none rfl) (v := Value.int .i64 (me : Int)) (fun wr hwr => by simp only [execOp, (F4.eval 11 (by omega)).trans (show _ = Value.pointer (some ⟨g.rb, 0, none⟩) from by simp [upd, ee0, ee1, ee3, ee6])]; simp [go_sem, hwr.1]) fun F5 => ?_
  refine lyp F5 rfl HC0 rfl (by omega) (wanted_none rfl) (v := Value.bool true) (fun wr hwr => by simp only [execOp, (F5.eval 8 (by omega)).trans (show _ = Value.int .i64 f from by simp [upd, ee0, ee1, ee3, ee6]), (F5.eval 12 (by omega)).trans (show _ = Value.int .i64 (me : Int) from by simp [upd, ee0, ee1, ee3, ee6])]; simp [go_sem, Act.eval, g0]) fun F6 => ?_
  refine lyp F6 rfl HC0 rfl (by omega) (wanted_none rfl) (v := Value.bool true) (fun wr hwr => by simp only [execOp, (F6.eval 13 (by omega)).trans (show _ = Value.bool true from by simp [upd, ee0, ee1, ee3, ee6])]; first | rfl | simp [go_sem]) fun F7 => ?_
  refine lyp F7 rfl HC0 rfl (by omega) (want_yes F7 rfl (e := 14) rfl (by omega) (show _ = Value.bool true from by simp [upd, ee0, ee1, ee3, ee6])) (v := Value.int .i64 f) (fun wr hwr => by simp only [execOp, (F7.eval 1 (by omega)).trans (show _ = Value.int .i64 f from by simp [upd, ee0, ee1, ee3, ee6])]; first | rfl | simp [go_sem]) fun F8 => ?_
  refine lyp F8 rfl HC0 rfl (by omega) (want_yes F8 rfl (e := 14) rfl (by omega) (show _ = Value.bool true from by simp [upd, ee0, ee1, ee3, ee6])) (v := Value.bool true) (fun wr hwr => by simp only [execOp, (F8.eval 15 (by omega)).trans (show _ = Value.int .i64 f from by simp [upd, ee0, ee1, ee3, ee6])]; simp [go_sem, Act.eval, g1]) fun F9 => ?_
  refine lyp F9 rfl HC0 rfl (by omega) (wanted_none rfl) (v := Value.bool true) (fun wr hwr => by simp only [execOp, (F9.eval 14 (by omega)).trans (show _ = Value.bool true from by simp [upd, ee0, ee1, ee3, ee6]), (F9.eval 16 (by omega)).trans (show _ = Value.bool true from by simp [upd, ee0, ee1, ee3, ee6])]; simp [go_sem, Act.eval]) fun F10 => ?_
  refine lyp F10 rfl HC0 rfl (by omega) (wanted_none rfl) (v := Value.bool true) (fun wr hwr => by simp only [execOp, (F10.eval 17 (by omega)).trans (show _ = Value.bool true from by simp [upd, ee0, ee1, ee3, ee6])]; first | rfl | simp [go_sem]) fun F11 => ?_
  refine lyp F11 rfl HC0 rfl (by omega) (want_yes F11 rfl (e := 18) rfl (by omega) (show _ = Value.bool true from by simp [upd, ee0, ee1, ee3, ee6])) (v := Value.int .i64 f) (fun wr hwr => by simp only [execOp, (F11.eval 1 (by omega)).trans (show _ = Value.int .i64 f from by simp [upd, ee0, ee1, ee3, ee6])]; first | rfl | simp [go_sem]) fun F12 => ?_
  refine lyp F12 rfl HC0 rfl (by omega) (want_yes F12 rfl (e := 18) rfl (by omega) (show _ = Value.bool true from by simp [upd, ee0, ee1, ee3, ee6])) (v := Value.pointer (some ⟨g.rb, 0, none⟩)) (fun wr hwr => by simp only [execOp, (F12.eval 0 (by omega)).trans (show _ = Value.pointer (some ⟨g.rb, 0, none⟩) from by simp [upd, ee0, ee1, ee3, ee6])]; first | rfl | simp [go_sem]) fun F13 => ?_
  refine lyp F13 rfl HC0 rfl (by omega) (want_yes F13 rfl (e := 18) rfl (by omega) (show _ = Value.bool true from by simp [upd, ee0, ee1, ee3, ee6])) (v := Value.pointer (some ⟨g.rb, 0, none⟩)) (fun wr hwr => by simp only [execOp, (F13.eval 20 (by omega)).trans (show _ = Value.pointer (some ⟨g.rb, 0, none⟩) from by simp [upd, ee0, ee1, ee3, ee6])]; simp [go_sem]) fun F14 => ?_
  refine lyp F14 rfl HC0 rfl (by omega) (want_yes F14 rfl (e := 18) rfl (by omega) (show _ = Value.bool true from by simp [upd, ee0, ee1, ee3, ee6])) (v := Value.pointer (some ⟨g.rb, 1, none⟩)) (fun wr hwr => by simp only [execOp, (F14.eval 21 (by omega)).trans (show _ = Value.pointer (some ⟨g.rb, 0, none⟩) from by simp [upd, ee0, ee1, ee3, ee6])]; simp [go_sem]) fun F15 => ?_
  refine lyp F15 rfl HC0 rfl (by omega) (want_yes F15 rfl (e := 18) rfl (by omega) (show _ = Value.bool true from by simp [upd, ee0, ee1, ee3, ee6])) (v := Value.int .i64 (n : Int)) (fun wr hwr => by simp only [execOp, (F15.eval 22 (by omega)).trans (show _ = Value.pointer (some ⟨g.rb, 1, none⟩) from by simp [upd, ee0, ee1, ee3, ee6])]; simp [go_sem, hwr.2.1]) fun F16 => ?_
  refine lyp F16 rfl HC0 rfl (by omega) (want_yes F16 rfl (e := 18) rfl (by omega) (show _ = Value.bool true from by simp [upd, ee0, ee1, ee3, ee6])) (v := Value.bool true) (fun wr hwr => by simp only [execOp, (F16.eval 19 (by omega)).trans (show _ = Value.int .i64 f from by simp [upd, ee0, ee1, ee3, ee6]), (F16.eval 23 (by omega)).trans (show _ = Value.int .i64 (n : Int) from by simp [upd, ee0, ee1, ee3, ee6])]; simp [go_sem, Act.eval, g2]) fun F17 => ?_
  refine lyp F17 rfl HC0 rfl (by omega) (wanted_none rfl) (v := Value.bool true) (fun wr hwr => by simp only [execOp, (F17.eval 18 (by omega)).trans (show _ = Value.bool true from by simp [upd, ee0, ee1, ee3, ee6]), (F17.eval 24 (by omega)).trans (show _ = Value.bool true from by simp [upd, ee0, ee1, ee3, ee6])]; simp [go_sem, Act.eval]) fun F18 => ?_
  refine lyp F18 rfl HC0 rfl (by omega) (wanted_none rfl) (v := Value.bool true) (fun wr hwr => by simp only [execOp, (F18.eval 25 (by omega)).trans (show _ = Value.bool true from by simp [upd, ee0, ee1, ee3, ee6])]; first | rfl | simp [go_sem]) fun F19 => ?_
  refine lyp F19 rfl HC0 rfl (by omega) (want_yes F19 rfl (e := 26) rfl (by omega) (show _ = Value.bool true from by simp [upd, ee0, ee1, ee3, ee6])) (v := Value.int .i64 h) (fun wr hwr => by simp only [execOp, (F19.eval 3 (by omega)).trans (show _ = Value.int .i64 h from by simp [upd, ee0, ee1, ee3, ee6])]; first | rfl | simp [go_sem]) fun F20 => ?_
  refine lyp F20 rfl HC0 rfl (by omega) (want_yes F20 rfl (e := 26) rfl (by omega) (show _ = Value.bool true from by simp [upd, ee0, ee1, ee3, ee6])) (v := Value.bool false) (fun wr hwr => by simp only [execOp, (F20.eval 27 (by omega)).trans (show _ = Value.int .i64 h from by simp [upd, ee0, ee1, ee3, ee6])]; simp [go_sem, Act.eval, g3]) fun F21 => ?_
  refine lyp F21 rfl HC0 rfl (by omega) (wanted_none rfl) (v := Value.bool false) (fun wr hwr => by simp only [execOp, (F21.eval 26 (by omega)).trans (show _ = Value.bool true from by simp [upd, ee0, ee1, ee3, ee6]), (F21.eval 28 (by omega)).trans (show _ = Value.bool false from by simp [upd, ee0, ee1, ee3, ee6])]; simp [go_sem, Act.eval]) fun F22 => ?_
  refine lyp F22 rfl HC0 rfl (by omega) (wanted_none rfl) (v := Value.bool false) (fun wr hwr => by simp only [execOp, (F22.eval 29 (by omega)).trans (show _ = Value.bool false from by simp [upd, ee0, ee1, ee3, ee6])]; first | rfl | simp [go_sem]) fun F23 => ?_
  refine lnp F23 rfl HC0 rfl (by omega) (want_no F23 rfl (e := 30) rfl (by omega) (show _ = Value.bool false from by simp [upd, ee0, ee1, ee3, ee6]) (by decide)) fun F24 => ?_
  refine lnp F24 rfl HC0 rfl (by omega) (want_no F24 rfl (e := 30) rfl (by omega) (show _ = Value.bool false from by simp [upd, ee0, ee1, ee3, ee6]) (by decide)) fun F25 => ?_
  refine lyp F25 rfl HC0 rfl (by omega) (wanted_none rfl) (v := Value.bool false) (fun wr hwr => by simp only [execOp, (F25.eval 30 (by omega)).trans (show _ = Value.bool false from by simp [upd, ee0, ee1, ee3, ee6])]; simp [go_sem, Act.eval]) fun F26 => ?_
  refine lyp F26 rfl HC0 rfl (by omega) (wanted_none rfl) (v := Value.bool false) (fun wr hwr => by simp only [execOp, (F26.eval 33 (by omega)).trans (show _ = Value.bool false from by simp [upd, ee0, ee1, ee3, ee6])]; first | rfl | simp [go_sem]) fun F27 => ?_
  refine lnp F27 rfl HC0 rfl (by omega) (want_no F27 rfl (e := 34) rfl (by omega) (show _ = Value.bool false from by simp [upd, ee0, ee1, ee3, ee6]) (by decide)) fun F28 => ?_
  refine lnp F28 rfl HC0 rfl (by omega) (want_no F28 rfl (e := 34) rfl (by omega) (show _ = Value.bool false from by simp [upd, ee0, ee1, ee3, ee6]) (by decide)) fun F29 => ?_
  refine lnp F29 rfl HC0 rfl (by omega) (want_no F29 rfl (e := 34) rfl (by omega) (show _ = Value.bool false from by simp [upd, ee0, ee1, ee3, ee6]) (by decide)) fun F30 => ?_
  refine lnp F30 rfl HC0 rfl (by omega) (want_no F30 rfl (e := 34) rfl (by omega) (show _ = Value.bool false from by simp [upd, ee0, ee1, ee3, ee6]) (by decide)) fun F31 => ?_
  refine lyp F31 rfl HC0 rfl (by omega) (wanted_none rfl) (v := Value.bool false) (fun wr hwr => by simp only [execOp, (F31.eval 34 (by omega)).trans (show _ = Value.bool false from by simp [upd, ee0, ee1, ee3, ee6])]; simp [go_sem, Act.eval]) fun F32 => ?_
  refine lyp F32 rfl HC0 rfl (by omega) (wanted_none rfl) (v := Value.bool false) (fun wr hwr => by simp only [execOp, (F32.eval 39 (by omega)).trans (show _ = Value.bool false from by simp [upd, ee0, ee1, ee3, ee6])]; first | rfl | simp [go_sem]) fun F33 => ?_
  refine lnp F33 rfl HC0 rfl (by omega) (want_no F33 rfl (e := 40) rfl (by omega) (show _ = Value.bool false from by simp [upd, ee0, ee1, ee3, ee6]) (by decide)) fun F34 => ?_
  refine lnp F34 rfl HC0 rfl (by omega) (want_no F34 rfl (e := 40) rfl (by omega) (show _ = Value.bool false from by simp [upd, ee0, ee1, ee3, ee6]) (by decide)) fun F35 => ?_
  refine lnp F35 rfl HC0 rfl (by omega) (want_no F35 rfl (e := 40) rfl (by omega) (show _ = Value.bool false from by simp [upd, ee0, ee1, ee3, ee6]) (by decide)) fun F36 => ?_
  refine lep F36 rfl HC0 rfl (by omega) (wanted_none rfl) (v := Value.bool false) (w1 := ({ W with drawn := W.drawn + 1 } : World)) (by simp only [execOp, (F36.eval 40 (by omega)).trans (show _ = Value.bool false from by simp [upd, ee0, ee1, ee3, ee6])]; simp [go_sem, Act.eval]) fun F37 => ?_
  refine ⟨fun h => by omega, ?_⟩
  refine hK _ _ ?_
  clear F0 F1 F2 F3 F4 F5 F6 F7 F8 F9 F10 F11 F12 F13 F14 F15 F16 F17 F18 F19 F20 F21 F22 F23 F24 F25 F26 F27 F28 F29 F30 F31 F32 F33 F34 F35 F36 F37 ee0 ee1 ee3 ee6 HC0
  simp only [Act.put, List.setIfInBounds_toArray, List.set_cons_succ, List.set_cons_zero]
  go_wp2_with fail
  exact end0n Try.results50 ⟨rfl, bgo HBW.out hDR (Nat.le_refl _)⟩
set_option maxRecDepth 100000 in
set_option maxHeartbeats 6400000 in
theorem rrep_4 {L me n : Nat} {g : RG} {x : EV} {r : RV} (f a b h er ek : Int) (w : World) (hM : RM L g r w) (ha : Agr x r) (hx : x.Nm) (hE : liveE x x.me = ⟨er, ek⟩) (hme : r.me = me) (hn : r.n = n) (g0 : (f != (me : Int)) = true) (g1 : 0 ≤ f) (g2 : f < (n : Int)) (g3 : 0 ≤ h) (g4 : ¬ h ≤ 1099511627776) : Calls Try.prog 50 #[.pointer (some ⟨g.rb, 0, none⟩), .int .i64 f, .agg #[.int .i64 a, .int .i64 b], .int .i64 h] w fun e w' => e = .returned (.tuple #[]) ∧ Below w.heap.size w w' := by
  have HM : Hid _ := hM
  obtain ⟨W, hW⟩ : ∃ W, W = w.alloc (.cells #[.int .i64 a, .int .i64 b] 49) := ⟨_, rfl⟩
  have hB : Blk W w.heap.size #[.int .i64 a, .int .i64 b] 49 := by rw [hW]; exact heap_alloc_new w _
  have hbW : Below w.heap.size w W := by rw [hW]; exact (Below.refl _ _).alloc (Nat.le_refl _) _
  obtain ⟨p, hp⟩ : ∃ p, p = w.heap.size := ⟨_, rfl⟩
  rw [← hp] at hB
  have HQN : Hid (¬ rown g p) := show ¬ rown g p from fun hk => by have := (hM.lt hk).2; omega
  have HO : Hid (Calls Try.prog 46 #[.pointer (some ⟨g.rb, 0, none⟩)] W.drew fun e w' => e = .returned (epV ⟨er, ek⟩) ∧ Below W.drew.heap.size W.drew w') := show Calls _ _ _ _ _ from by rw [← hE]; exact rown_any W.drew (hM.more hbW.drew) ha hx
  have HCX : Hid (∀ W2, Below W.heap.size W W2 → W2.cell? ⟨g.rb, 0, none⟩ = some (.int .i64 (me : Int)) ∧ W2.cell? ⟨g.rb, 1, none⟩ = some (.int .i64 (n : Int)) ∧ Blk W2 p #[.int .i64 a, .int .i64 b] 49) := fun W2 h2 => ⟨by rw [← hme]; exact (hM.more (bgo hbW h2 (Nat.le_refl _))).c0, by rw [← hn]; exact (hM.more (bgo hbW h2 (Nat.le_refl _))).c1, hB.up h2⟩
  have HBW : Hid _ := hbW
  have HW : Hid _ := hW
  have HP : Hid _ := hp
  clear hM ha hx hE hme hn hB hbW
  unfold epV at *
  go_enter Try.func50, Try.ntmps50
  go_upto_region 1 with fail
  try rw [← HW.out]
  try rw [← HP.out]
  clear HW hW hp
  rename_i K hK
  try rw [show ∀ a : Act, a.put none undef = a from fun _ => rfl]
  have hDR : Below W.heap.size W ({ W with drawn := W.drawn + 1 } : World) := (Below.refl _ _).drew
  have HC0 : (fun wz : World => wz.cell? ⟨g.rb, 0, none⟩ = some (.int .i64 (me : Int)) ∧ wz.cell? ⟨g.rb, 1, none⟩ = some (.int .i64 (n : Int)) ∧ Blk wz p #[.int .i64 a, .int .i64 b] 49) ({ W with drawn := W.drawn + 1 } : World) := HCX.out _ hDR
  refine wp_region_mix (fun wz : World => wz.cell? ⟨g.rb, 0, none⟩ = some (.int .i64 (me : Int)) ∧ wz.cell? ⟨g.rb, 1, none⟩ = some (.int .i64 (n : Int)) ∧ Blk wz p #[.int .i64 a, .int .i64 b] 49) (fun i => i == 36) 36 (by kernel_rfl) rfl (by kernel_rfl) (by kernel_rfl) (by kernel_rfl) ?_
  refine withFrP (N := 58) rfl ?_
  intro f0 F0 hff
  have ee0 : f0 0 = Value.pointer (some ⟨g.rb, 0, none⟩) := hff 0
  have ee1 : f0 1 = Value.int .i64 f := hff 1
  have ee3 : f0 3 = Value.int .i64 h := hff 3
  have ee6 : f0 6 = Value.pointer (some ⟨p, 0, none⟩) := hff 6
  clear hff
  refine lyp F0 rfl HC0 rfl (by omega) (wanted_none rfl) (v := Value.int .i64 f) (fun wr hwr => by simp only [execOp, (F0.eval 1 (by omega)).trans (show _ = Value.int .i64 f from by simp [upd, ee0, ee1, ee3, ee6])]; first | rfl | simp [go_sem]) fun F1 => ?_
  refine lyp F1 rfl HC0 rfl (by omega) (wanted_none rfl) (v := Value.pointer (some ⟨g.rb, 0, none⟩)) (fun wr hwr => by simp only [execOp, (F1.eval 0 (by omega)).trans (show _ = Value.pointer (some ⟨g.rb, 0, none⟩) from by simp [upd, ee0, ee1, ee3, ee6])]; first | rfl | simp [go_sem]) fun F2 => ?_
  refine lyp F2 rfl HC0 rfl (by omega) (wanted_none rfl) (v := Value.pointer (some ⟨g.rb, 0, none⟩)) (fun wr hwr => by simp only [execOp, (F2.eval 9 (by omega)).trans (show _ = Value.pointer (some ⟨g.rb, 0, none⟩) from by simp [upd, ee0, ee1, ee3, ee6])]; simp [go_sem]) fun F3 => ?_
  refine lyp F3 rfl HC0 rfl (by omega) (wanted_none rfl) (v := Value.pointer (some ⟨g.rb, 0, none⟩)) (fun wr hwr => by simp only [execOp, (F3.eval 10 (by omega)).trans (show _ = Value.pointer (some ⟨g.rb, 0, none⟩) from by simp [upd, ee0, ee1, ee3, ee6])]; simp [go_sem]) fun F4 => ?_
  refine lyp F4 rfl HC0 rfl (by omega) (wanted_none rfl) (v := Value.int .i64 (me : Int)) (fun wr hwr => by simp only [execOp, (F4.eval 11 (by omega)).trans (show _ = Value.pointer (some ⟨g.rb, 0, none⟩) from by simp [upd, ee0, ee1, ee3, ee6])]; simp [go_sem, hwr.1]) fun F5 => ?_
  refine lyp F5 rfl HC0 rfl (by omega) (wanted_none rfl) (v := Value.bool true) (fun wr hwr => by simp only [execOp, (F5.eval 8 (by omega)).trans (show _ = Value.int .i64 f from by simp [upd, ee0, ee1, ee3, ee6]), (F5.eval 12 (by omega)).trans (show _ = Value.int .i64 (me : Int) from by simp [upd, ee0, ee1, ee3, ee6])]; simp [go_sem, Act.eval, g0]) fun F6 => ?_
  refine lyp F6 rfl HC0 rfl (by omega) (wanted_none rfl) (v := Value.bool true) (fun wr hwr => by simp only [execOp, (F6.eval 13 (by omega)).trans (show _ = Value.bool true from by simp [upd, ee0, ee1, ee3, ee6])]; first | rfl | simp [go_sem]) fun F7 => ?_
  refine lyp F7 rfl HC0 rfl (by omega) (want_yes F7 rfl (e := 14) rfl (by omega) (show _ = Value.bool true from by simp [upd, ee0, ee1, ee3, ee6])) (v := Value.int .i64 f) (fun wr hwr => by simp only [execOp, (F7.eval 1 (by omega)).trans (show _ = Value.int .i64 f from by simp [upd, ee0, ee1, ee3, ee6])]; first | rfl | simp [go_sem]) fun F8 => ?_
  refine lyp F8 rfl HC0 rfl (by omega) (want_yes F8 rfl (e := 14) rfl (by omega) (show _ = Value.bool true from by simp [upd, ee0, ee1, ee3, ee6])) (v := Value.bool true) (fun wr hwr => by simp only [execOp, (F8.eval 15 (by omega)).trans (show _ = Value.int .i64 f from by simp [upd, ee0, ee1, ee3, ee6])]; simp [go_sem, Act.eval, g1]) fun F9 => ?_
  refine lyp F9 rfl HC0 rfl (by omega) (wanted_none rfl) (v := Value.bool true) (fun wr hwr => by simp only [execOp, (F9.eval 14 (by omega)).trans (show _ = Value.bool true from by simp [upd, ee0, ee1, ee3, ee6]), (F9.eval 16 (by omega)).trans (show _ = Value.bool true from by simp [upd, ee0, ee1, ee3, ee6])]; simp [go_sem, Act.eval]) fun F10 => ?_
  refine lyp F10 rfl HC0 rfl (by omega) (wanted_none rfl) (v := Value.bool true) (fun wr hwr => by simp only [execOp, (F10.eval 17 (by omega)).trans (show _ = Value.bool true from by simp [upd, ee0, ee1, ee3, ee6])]; first | rfl | simp [go_sem]) fun F11 => ?_
  refine lyp F11 rfl HC0 rfl (by omega) (want_yes F11 rfl (e := 18) rfl (by omega) (show _ = Value.bool true from by simp [upd, ee0, ee1, ee3, ee6])) (v := Value.int .i64 f) (fun wr hwr => by simp only [execOp, (F11.eval 1 (by omega)).trans (show _ = Value.int .i64 f from by simp [upd, ee0, ee1, ee3, ee6])]; first | rfl | simp [go_sem]) fun F12 => ?_
  refine lyp F12 rfl HC0 rfl (by omega) (want_yes F12 rfl (e := 18) rfl (by omega) (show _ = Value.bool true from by simp [upd, ee0, ee1, ee3, ee6])) (v := Value.pointer (some ⟨g.rb, 0, none⟩)) (fun wr hwr => by simp only [execOp, (F12.eval 0 (by omega)).trans (show _ = Value.pointer (some ⟨g.rb, 0, none⟩) from by simp [upd, ee0, ee1, ee3, ee6])]; first | rfl | simp [go_sem]) fun F13 => ?_
  refine lyp F13 rfl HC0 rfl (by omega) (want_yes F13 rfl (e := 18) rfl (by omega) (show _ = Value.bool true from by simp [upd, ee0, ee1, ee3, ee6])) (v := Value.pointer (some ⟨g.rb, 0, none⟩)) (fun wr hwr => by simp only [execOp, (F13.eval 20 (by omega)).trans (show _ = Value.pointer (some ⟨g.rb, 0, none⟩) from by simp [upd, ee0, ee1, ee3, ee6])]; simp [go_sem]) fun F14 => ?_
  refine lyp F14 rfl HC0 rfl (by omega) (want_yes F14 rfl (e := 18) rfl (by omega) (show _ = Value.bool true from by simp [upd, ee0, ee1, ee3, ee6])) (v := Value.pointer (some ⟨g.rb, 1, none⟩)) (fun wr hwr => by simp only [execOp, (F14.eval 21 (by omega)).trans (show _ = Value.pointer (some ⟨g.rb, 0, none⟩) from by simp [upd, ee0, ee1, ee3, ee6])]; simp [go_sem]) fun F15 => ?_
  refine lyp F15 rfl HC0 rfl (by omega) (want_yes F15 rfl (e := 18) rfl (by omega) (show _ = Value.bool true from by simp [upd, ee0, ee1, ee3, ee6])) (v := Value.int .i64 (n : Int)) (fun wr hwr => by simp only [execOp, (F15.eval 22 (by omega)).trans (show _ = Value.pointer (some ⟨g.rb, 1, none⟩) from by simp [upd, ee0, ee1, ee3, ee6])]; simp [go_sem, hwr.2.1]) fun F16 => ?_
  refine lyp F16 rfl HC0 rfl (by omega) (want_yes F16 rfl (e := 18) rfl (by omega) (show _ = Value.bool true from by simp [upd, ee0, ee1, ee3, ee6])) (v := Value.bool true) (fun wr hwr => by simp only [execOp, (F16.eval 19 (by omega)).trans (show _ = Value.int .i64 f from by simp [upd, ee0, ee1, ee3, ee6]), (F16.eval 23 (by omega)).trans (show _ = Value.int .i64 (n : Int) from by simp [upd, ee0, ee1, ee3, ee6])]; simp [go_sem, Act.eval, g2]) fun F17 => ?_
  refine lyp F17 rfl HC0 rfl (by omega) (wanted_none rfl) (v := Value.bool true) (fun wr hwr => by simp only [execOp, (F17.eval 18 (by omega)).trans (show _ = Value.bool true from by simp [upd, ee0, ee1, ee3, ee6]), (F17.eval 24 (by omega)).trans (show _ = Value.bool true from by simp [upd, ee0, ee1, ee3, ee6])]; simp [go_sem, Act.eval]) fun F18 => ?_
  refine lyp F18 rfl HC0 rfl (by omega) (wanted_none rfl) (v := Value.bool true) (fun wr hwr => by simp only [execOp, (F18.eval 25 (by omega)).trans (show _ = Value.bool true from by simp [upd, ee0, ee1, ee3, ee6])]; first | rfl | simp [go_sem]) fun F19 => ?_
  refine lyp F19 rfl HC0 rfl (by omega) (want_yes F19 rfl (e := 26) rfl (by omega) (show _ = Value.bool true from by simp [upd, ee0, ee1, ee3, ee6])) (v := Value.int .i64 h) (fun wr hwr => by simp only [execOp, (F19.eval 3 (by omega)).trans (show _ = Value.int .i64 h from by simp [upd, ee0, ee1, ee3, ee6])]; first | rfl | simp [go_sem]) fun F20 => ?_
  refine lyp F20 rfl HC0 rfl (by omega) (want_yes F20 rfl (e := 26) rfl (by omega) (show _ = Value.bool true from by simp [upd, ee0, ee1, ee3, ee6])) (v := Value.bool true) (fun wr hwr => by simp only [execOp, (F20.eval 27 (by omega)).trans (show _ = Value.int .i64 h from by simp [upd, ee0, ee1, ee3, ee6])]; simp [go_sem, Act.eval, g3]) fun F21 => ?_
  refine lyp F21 rfl HC0 rfl (by omega) (wanted_none rfl) (v := Value.bool true) (fun wr hwr => by simp only [execOp, (F21.eval 26 (by omega)).trans (show _ = Value.bool true from by simp [upd, ee0, ee1, ee3, ee6]), (F21.eval 28 (by omega)).trans (show _ = Value.bool true from by simp [upd, ee0, ee1, ee3, ee6])]; simp [go_sem, Act.eval]) fun F22 => ?_
  refine lyp F22 rfl HC0 rfl (by omega) (wanted_none rfl) (v := Value.bool true) (fun wr hwr => by simp only [execOp, (F22.eval 29 (by omega)).trans (show _ = Value.bool true from by simp [upd, ee0, ee1, ee3, ee6])]; first | rfl | simp [go_sem]) fun F23 => ?_
  refine lyp F23 rfl HC0 rfl (by omega) (want_yes F23 rfl (e := 30) rfl (by omega) (show _ = Value.bool true from by simp [upd, ee0, ee1, ee3, ee6])) (v := Value.int .i64 h) (fun wr hwr => by simp only [execOp, (F23.eval 3 (by omega)).trans (show _ = Value.int .i64 h from by simp [upd, ee0, ee1, ee3, ee6])]; first | rfl | simp [go_sem]) fun F24 => ?_
  refine lyp F24 rfl HC0 rfl (by omega) (want_yes F24 rfl (e := 30) rfl (by omega) (show _ = Value.bool true from by simp [upd, ee0, ee1, ee3, ee6])) (v := Value.bool false) (fun wr hwr => by simp only [execOp, (F24.eval 31 (by omega)).trans (show _ = Value.int .i64 h from by simp [upd, ee0, ee1, ee3, ee6])]; simp [go_sem, Act.eval, g4]) fun F25 => ?_
  refine lyp F25 rfl HC0 rfl (by omega) (wanted_none rfl) (v := Value.bool false) (fun wr hwr => by simp only [execOp, (F25.eval 30 (by omega)).trans (show _ = Value.bool true from by simp [upd, ee0, ee1, ee3, ee6]), (F25.eval 32 (by omega)).trans (show _ = Value.bool false from by simp [upd, ee0, ee1, ee3, ee6])]; simp [go_sem, Act.eval]) fun F26 => ?_
  refine lyp F26 rfl HC0 rfl (by omega) (wanted_none rfl) (v := Value.bool false) (fun wr hwr => by simp only [execOp, (F26.eval 33 (by omega)).trans (show _ = Value.bool false from by simp [upd, ee0, ee1, ee3, ee6])]; first | rfl | simp [go_sem]) fun F27 => ?_
  refine lnp F27 rfl HC0 rfl (by omega) (want_no F27 rfl (e := 34) rfl (by omega) (show _ = Value.bool false from by simp [upd, ee0, ee1, ee3, ee6]) (by decide)) fun F28 => ?_
  refine lnp F28 rfl HC0 rfl (by omega) (want_no F28 rfl (e := 34) rfl (by omega) (show _ = Value.bool false from by simp [upd, ee0, ee1, ee3, ee6]) (by decide)) fun F29 => ?_
  refine lnp F29 rfl HC0 rfl (by omega) (want_no F29 rfl (e := 34) rfl (by omega) (show _ = Value.bool false from by simp [upd, ee0, ee1, ee3, ee6]) (by decide)) fun F30 => ?_
  refine lnp F30 rfl HC0 rfl (by omega) (want_no F30 rfl (e := 34) rfl (by omega) (show _ = Value.bool false from by simp [upd, ee0, ee1, ee3, ee6]) (by decide)) fun F31 => ?_
  refine lyp F31 rfl HC0 rfl (by omega) (wanted_none rfl) (v := Value.bool false) (fun wr hwr => by simp only [execOp, (F31.eval 34 (by omega)).trans (show _ = Value.bool false from by simp [upd, ee0, ee1, ee3, ee6])]; simp [go_sem, Act.eval]) fun F32 => ?_
  refine lyp F32 rfl HC0 rfl (by omega) (wanted_none rfl) (v := Value.bool false) (fun wr hwr => by simp only [execOp, (F32.eval 39 (by omega)).trans (show _ = Value.bool false from by simp [upd, ee0, ee1, ee3, ee6])]; first | rfl | simp [go_sem]) fun F33 => ?_
  refine lnp F33 rfl HC0 rfl (by omega) (want_no F33 rfl (e := 40) rfl (by omega) (show _ = Value.bool false from by simp [upd, ee0, ee1, ee3, ee6]) (by decide)) fun F34 => ?_
  refine lnp F34 rfl HC0 rfl (by omega) (want_no F34 rfl (e := 40) rfl (by omega) (show _ = Value.bool false from by simp [upd, ee0, ee1, ee3, ee6]) (by decide)) fun F35 => ?_
  refine lnp F35 rfl HC0 rfl (by omega) (want_no F35 rfl (e := 40) rfl (by omega) (show _ = Value.bool false from by simp [upd, ee0, ee1, ee3, ee6]) (by decide)) fun F36 => ?_
  refine lep F36 rfl HC0 rfl (by omega) (wanted_none rfl) (v := Value.bool false) (w1 := ({ W with drawn := W.drawn + 1 } : World)) (by simp only [execOp, (F36.eval 40 (by omega)).trans (show _ = Value.bool false from by simp [upd, ee0, ee1, ee3, ee6])]; simp [go_sem, Act.eval]) fun F37 => ?_
  refine ⟨fun h => by omega, ?_⟩
  refine hK _ _ ?_
  clear F0 F1 F2 F3 F4 F5 F6 F7 F8 F9 F10 F11 F12 F13 F14 F15 F16 F17 F18 F19 F20 F21 F22 F23 F24 F25 F26 F27 F28 F29 F30 F31 F32 F33 F34 F35 F36 F37 ee0 ee1 ee3 ee6 HC0
  simp only [Act.put, List.setIfInBounds_toArray, List.set_cons_succ, List.set_cons_zero]
  go_wp2_with fail
  exact end0n Try.results50 ⟨rfl, bgo HBW.out hDR (Nat.le_refl _)⟩
set_option maxRecDepth 100000 in
set_option maxHeartbeats 6400000 in
theorem rrep_5 {L me n : Nat} {g : RG} {x : EV} {r : RV} (f a b h er ek : Int) (w : World) (hM : RM L g r w) (ha : Agr x r) (hx : x.Nm) (hE : liveE x x.me = ⟨er, ek⟩) (hme : r.me = me) (hn : r.n = n) (g0 : (f != (me : Int)) = true) (g1 : 0 ≤ f) (g2 : f < (n : Int)) (g3 : 0 ≤ h) (g4 : h ≤ 1099511627776) (g5 : sameE a b er ek = false) : Calls Try.prog 50 #[.pointer (some ⟨g.rb, 0, none⟩), .int .i64 f, .agg #[.int .i64 a, .int .i64 b], .int .i64 h] w fun e w' => e = .returned (.tuple #[]) ∧ Below w.heap.size w w' := by
  have HM : Hid _ := hM
  obtain ⟨W, hW⟩ : ∃ W, W = w.alloc (.cells #[.int .i64 a, .int .i64 b] 49) := ⟨_, rfl⟩
  have hB : Blk W w.heap.size #[.int .i64 a, .int .i64 b] 49 := by rw [hW]; exact heap_alloc_new w _
  have hbW : Below w.heap.size w W := by rw [hW]; exact (Below.refl _ _).alloc (Nat.le_refl _) _
  obtain ⟨p, hp⟩ : ∃ p, p = w.heap.size := ⟨_, rfl⟩
  rw [← hp] at hB
  have HQN : Hid (¬ rown g p) := show ¬ rown g p from fun hk => by have := (hM.lt hk).2; omega
  have HO : Hid (Calls Try.prog 46 #[.pointer (some ⟨g.rb, 0, none⟩)] W.drew fun e w' => e = .returned (epV ⟨er, ek⟩) ∧ Below W.drew.heap.size W.drew w') := show Calls _ _ _ _ _ from by rw [← hE]; exact rown_any W.drew (hM.more hbW.drew) ha hx
  have HCX : Hid (∀ W2, Below W.heap.size W W2 → W2.cell? ⟨g.rb, 0, none⟩ = some (.int .i64 (me : Int)) ∧ W2.cell? ⟨g.rb, 1, none⟩ = some (.int .i64 (n : Int)) ∧ Blk W2 p #[.int .i64 a, .int .i64 b] 49) := fun W2 h2 => ⟨by rw [← hme]; exact (hM.more (bgo hbW h2 (Nat.le_refl _))).c0, by rw [← hn]; exact (hM.more (bgo hbW h2 (Nat.le_refl _))).c1, hB.up h2⟩
  have HBW : Hid _ := hbW
  have HW : Hid _ := hW
  have HP : Hid _ := hp
  clear hM ha hx hE hme hn hB hbW
  unfold epV at *
  go_enter Try.func50, Try.ntmps50
  go_upto_region 1 with fail
  try rw [← HW.out]
  try rw [← HP.out]
  clear HW hW hp
  rename_i K hK
  try rw [show ∀ a : Act, a.put none undef = a from fun _ => rfl]
  have hDR : Below W.heap.size W ({ W with drawn := W.drawn + 1 } : World) := (Below.refl _ _).drew
  have HC0 : (fun wz : World => wz.cell? ⟨g.rb, 0, none⟩ = some (.int .i64 (me : Int)) ∧ wz.cell? ⟨g.rb, 1, none⟩ = some (.int .i64 (n : Int)) ∧ Blk wz p #[.int .i64 a, .int .i64 b] 49) ({ W with drawn := W.drawn + 1 } : World) := HCX.out _ hDR
  refine wp_region_mix (fun wz : World => wz.cell? ⟨g.rb, 0, none⟩ = some (.int .i64 (me : Int)) ∧ wz.cell? ⟨g.rb, 1, none⟩ = some (.int .i64 (n : Int)) ∧ Blk wz p #[.int .i64 a, .int .i64 b] 49) (fun i => i == 29 || i == 36) 36 (by kernel_rfl) rfl (by kernel_rfl) (by kernel_rfl) (by kernel_rfl) ?_
  refine withFrP (N := 58) rfl ?_
  intro f0 F0 hff
  have ee0 : f0 0 = Value.pointer (some ⟨g.rb, 0, none⟩) := hff 0
  have ee1 : f0 1 = Value.int .i64 f := hff 1
  have ee3 : f0 3 = Value.int .i64 h := hff 3
  have ee6 : f0 6 = Value.pointer (some ⟨p, 0, none⟩) := hff 6
  clear hff
  refine lyp F0 rfl HC0 rfl (by omega) (wanted_none rfl) (v := Value.int .i64 f) (fun wr hwr => by simp only [execOp, (F0.eval 1 (by omega)).trans (show _ = Value.int .i64 f from by simp [upd, ee0, ee1, ee3, ee6])]; first | rfl | simp [go_sem]) fun F1 => ?_
  refine lyp F1 rfl HC0 rfl (by omega) (wanted_none rfl) (v := Value.pointer (some ⟨g.rb, 0, none⟩)) (fun wr hwr => by simp only [execOp, (F1.eval 0 (by omega)).trans (show _ = Value.pointer (some ⟨g.rb, 0, none⟩) from by simp [upd, ee0, ee1, ee3, ee6])]; first | rfl | simp [go_sem]) fun F2 => ?_
  refine lyp F2 rfl HC0 rfl (by omega) (wanted_none rfl) (v := Value.pointer (some ⟨g.rb, 0, none⟩)) (fun wr hwr => by simp only [execOp, (F2.eval 9 (by omega)).trans (show _ = Value.pointer (some ⟨g.rb, 0, none⟩) from by simp [upd, ee0, ee1, ee3, ee6])]; simp [go_sem]) fun F3 => ?_
  refine lyp F3 rfl HC0 rfl (by omega) (wanted_none rfl) (v := Value.pointer (some ⟨g.rb, 0, none⟩)) (fun wr hwr => by simp only [execOp, (F3.eval 10 (by omega)).trans (show _ = Value.pointer (some ⟨g.rb, 0, none⟩) from by simp [upd, ee0, ee1, ee3, ee6])]; simp [go_sem]) fun F4 => ?_
  refine lyp F4 rfl HC0 rfl (by omega) (wanted_none rfl) (v := Value.int .i64 (me : Int)) (fun wr hwr => by simp only [execOp, (F4.eval 11 (by omega)).trans (show _ = Value.pointer (some ⟨g.rb, 0, none⟩) from by simp [upd, ee0, ee1, ee3, ee6])]; simp [go_sem, hwr.1]) fun F5 => ?_
  refine lyp F5 rfl HC0 rfl (by omega) (wanted_none rfl) (v := Value.bool true) (fun wr hwr => by simp only [execOp, (F5.eval 8 (by omega)).trans (show _ = Value.int .i64 f from by simp [upd, ee0, ee1, ee3, ee6]), (F5.eval 12 (by omega)).trans (show _ = Value.int .i64 (me : Int) from by simp [upd, ee0, ee1, ee3, ee6])]; simp [go_sem, Act.eval, g0]) fun F6 => ?_
  refine lyp F6 rfl HC0 rfl (by omega) (wanted_none rfl) (v := Value.bool true) (fun wr hwr => by simp only [execOp, (F6.eval 13 (by omega)).trans (show _ = Value.bool true from by simp [upd, ee0, ee1, ee3, ee6])]; first | rfl | simp [go_sem]) fun F7 => ?_
  refine lyp F7 rfl HC0 rfl (by omega) (want_yes F7 rfl (e := 14) rfl (by omega) (show _ = Value.bool true from by simp [upd, ee0, ee1, ee3, ee6])) (v := Value.int .i64 f) (fun wr hwr => by simp only [execOp, (F7.eval 1 (by omega)).trans (show _ = Value.int .i64 f from by simp [upd, ee0, ee1, ee3, ee6])]; first | rfl | simp [go_sem]) fun F8 => ?_
  refine lyp F8 rfl HC0 rfl (by omega) (want_yes F8 rfl (e := 14) rfl (by omega) (show _ = Value.bool true from by simp [upd, ee0, ee1, ee3, ee6])) (v := Value.bool true) (fun wr hwr => by simp only [execOp, (F8.eval 15 (by omega)).trans (show _ = Value.int .i64 f from by simp [upd, ee0, ee1, ee3, ee6])]; simp [go_sem, Act.eval, g1]) fun F9 => ?_
  refine lyp F9 rfl HC0 rfl (by omega) (wanted_none rfl) (v := Value.bool true) (fun wr hwr => by simp only [execOp, (F9.eval 14 (by omega)).trans (show _ = Value.bool true from by simp [upd, ee0, ee1, ee3, ee6]), (F9.eval 16 (by omega)).trans (show _ = Value.bool true from by simp [upd, ee0, ee1, ee3, ee6])]; simp [go_sem, Act.eval]) fun F10 => ?_
  refine lyp F10 rfl HC0 rfl (by omega) (wanted_none rfl) (v := Value.bool true) (fun wr hwr => by simp only [execOp, (F10.eval 17 (by omega)).trans (show _ = Value.bool true from by simp [upd, ee0, ee1, ee3, ee6])]; first | rfl | simp [go_sem]) fun F11 => ?_
  refine lyp F11 rfl HC0 rfl (by omega) (want_yes F11 rfl (e := 18) rfl (by omega) (show _ = Value.bool true from by simp [upd, ee0, ee1, ee3, ee6])) (v := Value.int .i64 f) (fun wr hwr => by simp only [execOp, (F11.eval 1 (by omega)).trans (show _ = Value.int .i64 f from by simp [upd, ee0, ee1, ee3, ee6])]; first | rfl | simp [go_sem]) fun F12 => ?_
  refine lyp F12 rfl HC0 rfl (by omega) (want_yes F12 rfl (e := 18) rfl (by omega) (show _ = Value.bool true from by simp [upd, ee0, ee1, ee3, ee6])) (v := Value.pointer (some ⟨g.rb, 0, none⟩)) (fun wr hwr => by simp only [execOp, (F12.eval 0 (by omega)).trans (show _ = Value.pointer (some ⟨g.rb, 0, none⟩) from by simp [upd, ee0, ee1, ee3, ee6])]; first | rfl | simp [go_sem]) fun F13 => ?_
  refine lyp F13 rfl HC0 rfl (by omega) (want_yes F13 rfl (e := 18) rfl (by omega) (show _ = Value.bool true from by simp [upd, ee0, ee1, ee3, ee6])) (v := Value.pointer (some ⟨g.rb, 0, none⟩)) (fun wr hwr => by simp only [execOp, (F13.eval 20 (by omega)).trans (show _ = Value.pointer (some ⟨g.rb, 0, none⟩) from by simp [upd, ee0, ee1, ee3, ee6])]; simp [go_sem]) fun F14 => ?_
  refine lyp F14 rfl HC0 rfl (by omega) (want_yes F14 rfl (e := 18) rfl (by omega) (show _ = Value.bool true from by simp [upd, ee0, ee1, ee3, ee6])) (v := Value.pointer (some ⟨g.rb, 1, none⟩)) (fun wr hwr => by simp only [execOp, (F14.eval 21 (by omega)).trans (show _ = Value.pointer (some ⟨g.rb, 0, none⟩) from by simp [upd, ee0, ee1, ee3, ee6])]; simp [go_sem]) fun F15 => ?_
  refine lyp F15 rfl HC0 rfl (by omega) (want_yes F15 rfl (e := 18) rfl (by omega) (show _ = Value.bool true from by simp [upd, ee0, ee1, ee3, ee6])) (v := Value.int .i64 (n : Int)) (fun wr hwr => by simp only [execOp, (F15.eval 22 (by omega)).trans (show _ = Value.pointer (some ⟨g.rb, 1, none⟩) from by simp [upd, ee0, ee1, ee3, ee6])]; simp [go_sem, hwr.2.1]) fun F16 => ?_
  refine lyp F16 rfl HC0 rfl (by omega) (want_yes F16 rfl (e := 18) rfl (by omega) (show _ = Value.bool true from by simp [upd, ee0, ee1, ee3, ee6])) (v := Value.bool true) (fun wr hwr => by simp only [execOp, (F16.eval 19 (by omega)).trans (show _ = Value.int .i64 f from by simp [upd, ee0, ee1, ee3, ee6]), (F16.eval 23 (by omega)).trans (show _ = Value.int .i64 (n : Int) from by simp [upd, ee0, ee1, ee3, ee6])]; simp [go_sem, Act.eval, g2]) fun F17 => ?_
  refine lyp F17 rfl HC0 rfl (by omega) (wanted_none rfl) (v := Value.bool true) (fun wr hwr => by simp only [execOp, (F17.eval 18 (by omega)).trans (show _ = Value.bool true from by simp [upd, ee0, ee1, ee3, ee6]), (F17.eval 24 (by omega)).trans (show _ = Value.bool true from by simp [upd, ee0, ee1, ee3, ee6])]; simp [go_sem, Act.eval]) fun F18 => ?_
  refine lyp F18 rfl HC0 rfl (by omega) (wanted_none rfl) (v := Value.bool true) (fun wr hwr => by simp only [execOp, (F18.eval 25 (by omega)).trans (show _ = Value.bool true from by simp [upd, ee0, ee1, ee3, ee6])]; first | rfl | simp [go_sem]) fun F19 => ?_
  refine lyp F19 rfl HC0 rfl (by omega) (want_yes F19 rfl (e := 26) rfl (by omega) (show _ = Value.bool true from by simp [upd, ee0, ee1, ee3, ee6])) (v := Value.int .i64 h) (fun wr hwr => by simp only [execOp, (F19.eval 3 (by omega)).trans (show _ = Value.int .i64 h from by simp [upd, ee0, ee1, ee3, ee6])]; first | rfl | simp [go_sem]) fun F20 => ?_
  refine lyp F20 rfl HC0 rfl (by omega) (want_yes F20 rfl (e := 26) rfl (by omega) (show _ = Value.bool true from by simp [upd, ee0, ee1, ee3, ee6])) (v := Value.bool true) (fun wr hwr => by simp only [execOp, (F20.eval 27 (by omega)).trans (show _ = Value.int .i64 h from by simp [upd, ee0, ee1, ee3, ee6])]; simp [go_sem, Act.eval, g3]) fun F21 => ?_
  refine lyp F21 rfl HC0 rfl (by omega) (wanted_none rfl) (v := Value.bool true) (fun wr hwr => by simp only [execOp, (F21.eval 26 (by omega)).trans (show _ = Value.bool true from by simp [upd, ee0, ee1, ee3, ee6]), (F21.eval 28 (by omega)).trans (show _ = Value.bool true from by simp [upd, ee0, ee1, ee3, ee6])]; simp [go_sem, Act.eval]) fun F22 => ?_
  refine lyp F22 rfl HC0 rfl (by omega) (wanted_none rfl) (v := Value.bool true) (fun wr hwr => by simp only [execOp, (F22.eval 29 (by omega)).trans (show _ = Value.bool true from by simp [upd, ee0, ee1, ee3, ee6])]; first | rfl | simp [go_sem]) fun F23 => ?_
  refine lyp F23 rfl HC0 rfl (by omega) (want_yes F23 rfl (e := 30) rfl (by omega) (show _ = Value.bool true from by simp [upd, ee0, ee1, ee3, ee6])) (v := Value.int .i64 h) (fun wr hwr => by simp only [execOp, (F23.eval 3 (by omega)).trans (show _ = Value.int .i64 h from by simp [upd, ee0, ee1, ee3, ee6])]; first | rfl | simp [go_sem]) fun F24 => ?_
  refine lyp F24 rfl HC0 rfl (by omega) (want_yes F24 rfl (e := 30) rfl (by omega) (show _ = Value.bool true from by simp [upd, ee0, ee1, ee3, ee6])) (v := Value.bool true) (fun wr hwr => by simp only [execOp, (F24.eval 31 (by omega)).trans (show _ = Value.int .i64 h from by simp [upd, ee0, ee1, ee3, ee6])]; simp [go_sem, Act.eval, g4]) fun F25 => ?_
  refine lyp F25 rfl HC0 rfl (by omega) (wanted_none rfl) (v := Value.bool true) (fun wr hwr => by simp only [execOp, (F25.eval 30 (by omega)).trans (show _ = Value.bool true from by simp [upd, ee0, ee1, ee3, ee6]), (F25.eval 32 (by omega)).trans (show _ = Value.bool true from by simp [upd, ee0, ee1, ee3, ee6])]; simp [go_sem, Act.eval]) fun F26 => ?_
  refine lyp F26 rfl HC0 rfl (by omega) (wanted_none rfl) (v := Value.bool true) (fun wr hwr => by simp only [execOp, (F26.eval 33 (by omega)).trans (show _ = Value.bool true from by simp [upd, ee0, ee1, ee3, ee6])]; first | rfl | simp [go_sem]) fun F27 => ?_
  refine lyp F27 rfl HC0 rfl (by omega) (want_yes F27 rfl (e := 34) rfl (by omega) (show _ = Value.bool true from by simp [upd, ee0, ee1, ee3, ee6])) (v := Value.agg #[Value.int .i64 a, Value.int .i64 b]) (fun wr hwr => by have h0 := hwr.2.2.cell 0; have h1 := hwr.2.2.cell 1; simp only [execOp, (F27.eval 6 (by omega)).trans (show _ = Value.pointer (some ⟨p, 0, none⟩) from by simp [upd, ee0, ee1, ee3, ee6])]; simp [go_sem, h0, h1]) fun F28 => ?_
  refine lyp F28 rfl HC0 rfl (by omega) (want_yes F28 rfl (e := 34) rfl (by omega) (show _ = Value.bool true from by simp [upd, ee0, ee1, ee3, ee6])) (v := Value.pointer (some ⟨g.rb, 0, none⟩)) (fun wr hwr => by simp only [execOp, (F28.eval 0 (by omega)).trans (show _ = Value.pointer (some ⟨g.rb, 0, none⟩) from by simp [upd, ee0, ee1, ee3, ee6])]; first | rfl | simp [go_sem]) fun F29 => ?_
  refine lcp F29 rfl HC0 rfl (by omega) (want_yes F29 rfl (e := 34) rfl (by omega) (show _ = Value.bool true from by simp [upd, ee0, ee1, ee3, ee6])) (g := 46) (args := #[Value.pointer (some ⟨g.rb, 0, none⟩)]) (by simp only [execOp, resolve, invoke, List.map_toArray, List.map_cons, List.map_nil, (F29.eval 36 (by omega)).trans (show _ = Value.pointer (some ⟨g.rb, 0, none⟩) from by simp [upd, ee0, ee1, ee3, ee6])]; simp [go_sem, Act.eval]) HO.out ?_
  rintro e w2 ⟨rfl, hb2⟩
  have hbd : Below W.heap.size W w2 := bgo hDR hb2 (Nat.le_refl _)
  have HC1 : (fun wz : World => wz.cell? ⟨g.rb, 0, none⟩ = some (.int .i64 (me : Int)) ∧ wz.cell? ⟨g.rb, 1, none⟩ = some (.int .i64 (n : Int)) ∧ Blk wz p #[.int .i64 a, .int .i64 b] 49) w2 := HCX.out _ hbd
  refine ⟨_, rfl, fun F30 => ?_⟩
  refine lyp F30 rfl HC1 rfl (by omega) (want_yes F30 rfl (e := 34) rfl (by omega) (show _ = Value.bool true from by simp [upd, ee0, ee1, ee3, ee6])) (v := Value.bool false) (fun wr hwr => by simp only [execOp, (F30.eval 35 (by omega)).trans (show _ = Value.agg #[Value.int .i64 a, Value.int .i64 b] from by simp [upd, ee0, ee1, ee3, ee6]), (F30.eval 37 (by omega)).trans (show _ = Value.agg #[Value.int .i64 er, Value.int .i64 ek] from by simp [upd, ee0, ee1, ee3, ee6])]; simp only [eql49i, g5, Sem.run_bind, Sem.run_pure, Result.andThen_ok]; simp [go_sem, eqGuard]) fun F31 => ?_
  refine lyp F31 rfl HC1 rfl (by omega) (wanted_none rfl) (v := Value.bool false) (fun wr hwr => by simp only [execOp, (F31.eval 34 (by omega)).trans (show _ = Value.bool true from by simp [upd, ee0, ee1, ee3, ee6]), (F31.eval 38 (by omega)).trans (show _ = Value.bool false from by simp [upd, ee0, ee1, ee3, ee6])]; simp [go_sem, Act.eval]) fun F32 => ?_
  refine lyp F32 rfl HC1 rfl (by omega) (wanted_none rfl) (v := Value.bool false) (fun wr hwr => by simp only [execOp, (F32.eval 39 (by omega)).trans (show _ = Value.bool false from by simp [upd, ee0, ee1, ee3, ee6])]; first | rfl | simp [go_sem]) fun F33 => ?_
  refine lnp F33 rfl HC1 rfl (by omega) (want_no F33 rfl (e := 40) rfl (by omega) (show _ = Value.bool false from by simp [upd, ee0, ee1, ee3, ee6]) (by decide)) fun F34 => ?_
  refine lnp F34 rfl HC1 rfl (by omega) (want_no F34 rfl (e := 40) rfl (by omega) (show _ = Value.bool false from by simp [upd, ee0, ee1, ee3, ee6]) (by decide)) fun F35 => ?_
  refine lnp F35 rfl HC1 rfl (by omega) (want_no F35 rfl (e := 40) rfl (by omega) (show _ = Value.bool false from by simp [upd, ee0, ee1, ee3, ee6]) (by decide)) fun F36 => ?_
  refine lep F36 rfl HC1 rfl (by omega) (wanted_none rfl) (v := Value.bool false) (w1 := w2) (by simp only [execOp, (F36.eval 40 (by omega)).trans (show _ = Value.bool false from by simp [upd, ee0, ee1, ee3, ee6])]; simp [go_sem, Act.eval]) fun F37 => ?_
  refine ⟨fun h => by omega, ?_⟩
  refine hK _ _ ?_
  clear F0 F1 F2 F3 F4 F5 F6 F7 F8 F9 F10 F11 F12 F13 F14 F15 F16 F17 F18 F19 F20 F21 F22 F23 F24 F25 F26 F27 F28 F29 F30 F31 F32 F33 F34 F35 F36 F37 ee0 ee1 ee3 ee6 HC0 HC1
  simp only [Act.put, List.setIfInBounds_toArray, List.set_cons_succ, List.set_cons_zero]
  go_wp2_with fail
  exact end0n Try.results50 ⟨rfl, bgo HBW.out hbd (Nat.le_refl _)⟩
set_option maxRecDepth 100000 in
set_option maxHeartbeats 6400000 in
theorem rrep_6 {L me n : Nat} {g : RG} {x : EV} {r : RV} (f a b h er ek : Int) (w : World) (hM : RM L g r w) (ha : Agr x r) (hx : x.Nm) (hE : liveE x x.me = ⟨er, ek⟩) (hme : r.me = me) (hn : r.n = n) (g0 : (f != (me : Int)) = true) (g1 : 0 ≤ f) (g2 : f < (n : Int)) (g3 : 0 ≤ h) (g4 : h ≤ 1099511627776) (g5 : sameE a b er ek = true) (g6 : ¬ 0 < a) : Calls Try.prog 50 #[.pointer (some ⟨g.rb, 0, none⟩), .int .i64 f, .agg #[.int .i64 a, .int .i64 b], .int .i64 h] w fun e w' => e = .returned (.tuple #[]) ∧ Below w.heap.size w w' := by
  have HM : Hid _ := hM
  obtain ⟨W, hW⟩ : ∃ W, W = w.alloc (.cells #[.int .i64 a, .int .i64 b] 49) := ⟨_, rfl⟩
  have hB : Blk W w.heap.size #[.int .i64 a, .int .i64 b] 49 := by rw [hW]; exact heap_alloc_new w _
  have hbW : Below w.heap.size w W := by rw [hW]; exact (Below.refl _ _).alloc (Nat.le_refl _) _
  obtain ⟨p, hp⟩ : ∃ p, p = w.heap.size := ⟨_, rfl⟩
  rw [← hp] at hB
  have HQN : Hid (¬ rown g p) := show ¬ rown g p from fun hk => by have := (hM.lt hk).2; omega
  have HO : Hid (Calls Try.prog 46 #[.pointer (some ⟨g.rb, 0, none⟩)] W.drew fun e w' => e = .returned (epV ⟨er, ek⟩) ∧ Below W.drew.heap.size W.drew w') := show Calls _ _ _ _ _ from by rw [← hE]; exact rown_any W.drew (hM.more hbW.drew) ha hx
  have HCX : Hid (∀ W2, Below W.heap.size W W2 → W2.cell? ⟨g.rb, 0, none⟩ = some (.int .i64 (me : Int)) ∧ W2.cell? ⟨g.rb, 1, none⟩ = some (.int .i64 (n : Int)) ∧ Blk W2 p #[.int .i64 a, .int .i64 b] 49) := fun W2 h2 => ⟨by rw [← hme]; exact (hM.more (bgo hbW h2 (Nat.le_refl _))).c0, by rw [← hn]; exact (hM.more (bgo hbW h2 (Nat.le_refl _))).c1, hB.up h2⟩
  have HBW : Hid _ := hbW
  have HW : Hid _ := hW
  have HP : Hid _ := hp
  clear hM ha hx hE hme hn hB hbW
  unfold epV at *
  go_enter Try.func50, Try.ntmps50
  go_upto_region 1 with fail
  try rw [← HW.out]
  try rw [← HP.out]
  clear HW hW hp
  rename_i K hK
  try rw [show ∀ a : Act, a.put none undef = a from fun _ => rfl]
  have hDR : Below W.heap.size W ({ W with drawn := W.drawn + 1 } : World) := (Below.refl _ _).drew
  have HC0 : (fun wz : World => wz.cell? ⟨g.rb, 0, none⟩ = some (.int .i64 (me : Int)) ∧ wz.cell? ⟨g.rb, 1, none⟩ = some (.int .i64 (n : Int)) ∧ Blk wz p #[.int .i64 a, .int .i64 b] 49) ({ W with drawn := W.drawn + 1 } : World) := HCX.out _ hDR
  refine wp_region_mix (fun wz : World => wz.cell? ⟨g.rb, 0, none⟩ = some (.int .i64 (me : Int)) ∧ wz.cell? ⟨g.rb, 1, none⟩ = some (.int .i64 (n : Int)) ∧ Blk wz p #[.int .i64 a, .int .i64 b] 49) (fun i => i == 29 || i == 36) 36 (by kernel_rfl) rfl (by kernel_rfl) (by kernel_rfl) (by kernel_rfl) ?_
  refine withFrP (N := 58) rfl ?_
  intro f0 F0 hff
  have ee0 : f0 0 = Value.pointer (some ⟨g.rb, 0, none⟩) := hff 0
  have ee1 : f0 1 = Value.int .i64 f := hff 1
  have ee3 : f0 3 = Value.int .i64 h := hff 3
  have ee6 : f0 6 = Value.pointer (some ⟨p, 0, none⟩) := hff 6
  clear hff
  refine lyp F0 rfl HC0 rfl (by omega) (wanted_none rfl) (v := Value.int .i64 f) (fun wr hwr => by simp only [execOp, (F0.eval 1 (by omega)).trans (show _ = Value.int .i64 f from by simp [upd, ee0, ee1, ee3, ee6])]; first | rfl | simp [go_sem]) fun F1 => ?_
  refine lyp F1 rfl HC0 rfl (by omega) (wanted_none rfl) (v := Value.pointer (some ⟨g.rb, 0, none⟩)) (fun wr hwr => by simp only [execOp, (F1.eval 0 (by omega)).trans (show _ = Value.pointer (some ⟨g.rb, 0, none⟩) from by simp [upd, ee0, ee1, ee3, ee6])]; first | rfl | simp [go_sem]) fun F2 => ?_
  refine lyp F2 rfl HC0 rfl (by omega) (wanted_none rfl) (v := Value.pointer (some ⟨g.rb, 0, none⟩)) (fun wr hwr => by simp only [execOp, (F2.eval 9 (by omega)).trans (show _ = Value.pointer (some ⟨g.rb, 0, none⟩) from by simp [upd, ee0, ee1, ee3, ee6])]; simp [go_sem]) fun F3 => ?_
  refine lyp F3 rfl HC0 rfl (by omega) (wanted_none rfl) (v := Value.pointer (some ⟨g.rb, 0, none⟩)) (fun wr hwr => by simp only [execOp, (F3.eval 10 (by omega)).trans (show _ = Value.pointer (some ⟨g.rb, 0, none⟩) from by simp [upd, ee0, ee1, ee3, ee6])]; simp [go_sem]) fun F4 => ?_
  refine lyp F4 rfl HC0 rfl (by omega) (wanted_none rfl) (v := Value.int .i64 (me : Int)) (fun wr hwr => by simp only [execOp, (F4.eval 11 (by omega)).trans (show _ = Value.pointer (some ⟨g.rb, 0, none⟩) from by simp [upd, ee0, ee1, ee3, ee6])]; simp [go_sem, hwr.1]) fun F5 => ?_
  refine lyp F5 rfl HC0 rfl (by omega) (wanted_none rfl) (v := Value.bool true) (fun wr hwr => by simp only [execOp, (F5.eval 8 (by omega)).trans (show _ = Value.int .i64 f from by simp [upd, ee0, ee1, ee3, ee6]), (F5.eval 12 (by omega)).trans (show _ = Value.int .i64 (me : Int) from by simp [upd, ee0, ee1, ee3, ee6])]; simp [go_sem, Act.eval, g0]) fun F6 => ?_
  refine lyp F6 rfl HC0 rfl (by omega) (wanted_none rfl) (v := Value.bool true) (fun wr hwr => by simp only [execOp, (F6.eval 13 (by omega)).trans (show _ = Value.bool true from by simp [upd, ee0, ee1, ee3, ee6])]; first | rfl | simp [go_sem]) fun F7 => ?_
  refine lyp F7 rfl HC0 rfl (by omega) (want_yes F7 rfl (e := 14) rfl (by omega) (show _ = Value.bool true from by simp [upd, ee0, ee1, ee3, ee6])) (v := Value.int .i64 f) (fun wr hwr => by simp only [execOp, (F7.eval 1 (by omega)).trans (show _ = Value.int .i64 f from by simp [upd, ee0, ee1, ee3, ee6])]; first | rfl | simp [go_sem]) fun F8 => ?_
  refine lyp F8 rfl HC0 rfl (by omega) (want_yes F8 rfl (e := 14) rfl (by omega) (show _ = Value.bool true from by simp [upd, ee0, ee1, ee3, ee6])) (v := Value.bool true) (fun wr hwr => by simp only [execOp, (F8.eval 15 (by omega)).trans (show _ = Value.int .i64 f from by simp [upd, ee0, ee1, ee3, ee6])]; simp [go_sem, Act.eval, g1]) fun F9 => ?_
  refine lyp F9 rfl HC0 rfl (by omega) (wanted_none rfl) (v := Value.bool true) (fun wr hwr => by simp only [execOp, (F9.eval 14 (by omega)).trans (show _ = Value.bool true from by simp [upd, ee0, ee1, ee3, ee6]), (F9.eval 16 (by omega)).trans (show _ = Value.bool true from by simp [upd, ee0, ee1, ee3, ee6])]; simp [go_sem, Act.eval]) fun F10 => ?_
  refine lyp F10 rfl HC0 rfl (by omega) (wanted_none rfl) (v := Value.bool true) (fun wr hwr => by simp only [execOp, (F10.eval 17 (by omega)).trans (show _ = Value.bool true from by simp [upd, ee0, ee1, ee3, ee6])]; first | rfl | simp [go_sem]) fun F11 => ?_
  refine lyp F11 rfl HC0 rfl (by omega) (want_yes F11 rfl (e := 18) rfl (by omega) (show _ = Value.bool true from by simp [upd, ee0, ee1, ee3, ee6])) (v := Value.int .i64 f) (fun wr hwr => by simp only [execOp, (F11.eval 1 (by omega)).trans (show _ = Value.int .i64 f from by simp [upd, ee0, ee1, ee3, ee6])]; first | rfl | simp [go_sem]) fun F12 => ?_
  refine lyp F12 rfl HC0 rfl (by omega) (want_yes F12 rfl (e := 18) rfl (by omega) (show _ = Value.bool true from by simp [upd, ee0, ee1, ee3, ee6])) (v := Value.pointer (some ⟨g.rb, 0, none⟩)) (fun wr hwr => by simp only [execOp, (F12.eval 0 (by omega)).trans (show _ = Value.pointer (some ⟨g.rb, 0, none⟩) from by simp [upd, ee0, ee1, ee3, ee6])]; first | rfl | simp [go_sem]) fun F13 => ?_
  refine lyp F13 rfl HC0 rfl (by omega) (want_yes F13 rfl (e := 18) rfl (by omega) (show _ = Value.bool true from by simp [upd, ee0, ee1, ee3, ee6])) (v := Value.pointer (some ⟨g.rb, 0, none⟩)) (fun wr hwr => by simp only [execOp, (F13.eval 20 (by omega)).trans (show _ = Value.pointer (some ⟨g.rb, 0, none⟩) from by simp [upd, ee0, ee1, ee3, ee6])]; simp [go_sem]) fun F14 => ?_
  refine lyp F14 rfl HC0 rfl (by omega) (want_yes F14 rfl (e := 18) rfl (by omega) (show _ = Value.bool true from by simp [upd, ee0, ee1, ee3, ee6])) (v := Value.pointer (some ⟨g.rb, 1, none⟩)) (fun wr hwr => by simp only [execOp, (F14.eval 21 (by omega)).trans (show _ = Value.pointer (some ⟨g.rb, 0, none⟩) from by simp [upd, ee0, ee1, ee3, ee6])]; simp [go_sem]) fun F15 => ?_
  refine lyp F15 rfl HC0 rfl (by omega) (want_yes F15 rfl (e := 18) rfl (by omega) (show _ = Value.bool true from by simp [upd, ee0, ee1, ee3, ee6])) (v := Value.int .i64 (n : Int)) (fun wr hwr => by simp only [execOp, (F15.eval 22 (by omega)).trans (show _ = Value.pointer (some ⟨g.rb, 1, none⟩) from by simp [upd, ee0, ee1, ee3, ee6])]; simp [go_sem, hwr.2.1]) fun F16 => ?_
  refine lyp F16 rfl HC0 rfl (by omega) (want_yes F16 rfl (e := 18) rfl (by omega) (show _ = Value.bool true from by simp [upd, ee0, ee1, ee3, ee6])) (v := Value.bool true) (fun wr hwr => by simp only [execOp, (F16.eval 19 (by omega)).trans (show _ = Value.int .i64 f from by simp [upd, ee0, ee1, ee3, ee6]), (F16.eval 23 (by omega)).trans (show _ = Value.int .i64 (n : Int) from by simp [upd, ee0, ee1, ee3, ee6])]; simp [go_sem, Act.eval, g2]) fun F17 => ?_
  refine lyp F17 rfl HC0 rfl (by omega) (wanted_none rfl) (v := Value.bool true) (fun wr hwr => by simp only [execOp, (F17.eval 18 (by omega)).trans (show _ = Value.bool true from by simp [upd, ee0, ee1, ee3, ee6]), (F17.eval 24 (by omega)).trans (show _ = Value.bool true from by simp [upd, ee0, ee1, ee3, ee6])]; simp [go_sem, Act.eval]) fun F18 => ?_
  refine lyp F18 rfl HC0 rfl (by omega) (wanted_none rfl) (v := Value.bool true) (fun wr hwr => by simp only [execOp, (F18.eval 25 (by omega)).trans (show _ = Value.bool true from by simp [upd, ee0, ee1, ee3, ee6])]; first | rfl | simp [go_sem]) fun F19 => ?_
  refine lyp F19 rfl HC0 rfl (by omega) (want_yes F19 rfl (e := 26) rfl (by omega) (show _ = Value.bool true from by simp [upd, ee0, ee1, ee3, ee6])) (v := Value.int .i64 h) (fun wr hwr => by simp only [execOp, (F19.eval 3 (by omega)).trans (show _ = Value.int .i64 h from by simp [upd, ee0, ee1, ee3, ee6])]; first | rfl | simp [go_sem]) fun F20 => ?_
  refine lyp F20 rfl HC0 rfl (by omega) (want_yes F20 rfl (e := 26) rfl (by omega) (show _ = Value.bool true from by simp [upd, ee0, ee1, ee3, ee6])) (v := Value.bool true) (fun wr hwr => by simp only [execOp, (F20.eval 27 (by omega)).trans (show _ = Value.int .i64 h from by simp [upd, ee0, ee1, ee3, ee6])]; simp [go_sem, Act.eval, g3]) fun F21 => ?_
  refine lyp F21 rfl HC0 rfl (by omega) (wanted_none rfl) (v := Value.bool true) (fun wr hwr => by simp only [execOp, (F21.eval 26 (by omega)).trans (show _ = Value.bool true from by simp [upd, ee0, ee1, ee3, ee6]), (F21.eval 28 (by omega)).trans (show _ = Value.bool true from by simp [upd, ee0, ee1, ee3, ee6])]; simp [go_sem, Act.eval]) fun F22 => ?_
  refine lyp F22 rfl HC0 rfl (by omega) (wanted_none rfl) (v := Value.bool true) (fun wr hwr => by simp only [execOp, (F22.eval 29 (by omega)).trans (show _ = Value.bool true from by simp [upd, ee0, ee1, ee3, ee6])]; first | rfl | simp [go_sem]) fun F23 => ?_
  refine lyp F23 rfl HC0 rfl (by omega) (want_yes F23 rfl (e := 30) rfl (by omega) (show _ = Value.bool true from by simp [upd, ee0, ee1, ee3, ee6])) (v := Value.int .i64 h) (fun wr hwr => by simp only [execOp, (F23.eval 3 (by omega)).trans (show _ = Value.int .i64 h from by simp [upd, ee0, ee1, ee3, ee6])]; first | rfl | simp [go_sem]) fun F24 => ?_
  refine lyp F24 rfl HC0 rfl (by omega) (want_yes F24 rfl (e := 30) rfl (by omega) (show _ = Value.bool true from by simp [upd, ee0, ee1, ee3, ee6])) (v := Value.bool true) (fun wr hwr => by simp only [execOp, (F24.eval 31 (by omega)).trans (show _ = Value.int .i64 h from by simp [upd, ee0, ee1, ee3, ee6])]; simp [go_sem, Act.eval, g4]) fun F25 => ?_
  refine lyp F25 rfl HC0 rfl (by omega) (wanted_none rfl) (v := Value.bool true) (fun wr hwr => by simp only [execOp, (F25.eval 30 (by omega)).trans (show _ = Value.bool true from by simp [upd, ee0, ee1, ee3, ee6]), (F25.eval 32 (by omega)).trans (show _ = Value.bool true from by simp [upd, ee0, ee1, ee3, ee6])]; simp [go_sem, Act.eval]) fun F26 => ?_
  refine lyp F26 rfl HC0 rfl (by omega) (wanted_none rfl) (v := Value.bool true) (fun wr hwr => by simp only [execOp, (F26.eval 33 (by omega)).trans (show _ = Value.bool true from by simp [upd, ee0, ee1, ee3, ee6])]; first | rfl | simp [go_sem]) fun F27 => ?_
  refine lyp F27 rfl HC0 rfl (by omega) (want_yes F27 rfl (e := 34) rfl (by omega) (show _ = Value.bool true from by simp [upd, ee0, ee1, ee3, ee6])) (v := Value.agg #[Value.int .i64 a, Value.int .i64 b]) (fun wr hwr => by have h0 := hwr.2.2.cell 0; have h1 := hwr.2.2.cell 1; simp only [execOp, (F27.eval 6 (by omega)).trans (show _ = Value.pointer (some ⟨p, 0, none⟩) from by simp [upd, ee0, ee1, ee3, ee6])]; simp [go_sem, h0, h1]) fun F28 => ?_
  refine lyp F28 rfl HC0 rfl (by omega) (want_yes F28 rfl (e := 34) rfl (by omega) (show _ = Value.bool true from by simp [upd, ee0, ee1, ee3, ee6])) (v := Value.pointer (some ⟨g.rb, 0, none⟩)) (fun wr hwr => by simp only [execOp, (F28.eval 0 (by omega)).trans (show _ = Value.pointer (some ⟨g.rb, 0, none⟩) from by simp [upd, ee0, ee1, ee3, ee6])]; first | rfl | simp [go_sem]) fun F29 => ?_
  refine lcp F29 rfl HC0 rfl (by omega) (want_yes F29 rfl (e := 34) rfl (by omega) (show _ = Value.bool true from by simp [upd, ee0, ee1, ee3, ee6])) (g := 46) (args := #[Value.pointer (some ⟨g.rb, 0, none⟩)]) (by simp only [execOp, resolve, invoke, List.map_toArray, List.map_cons, List.map_nil, (F29.eval 36 (by omega)).trans (show _ = Value.pointer (some ⟨g.rb, 0, none⟩) from by simp [upd, ee0, ee1, ee3, ee6])]; simp [go_sem, Act.eval]) HO.out ?_
  rintro e w2 ⟨rfl, hb2⟩
  have hbd : Below W.heap.size W w2 := bgo hDR hb2 (Nat.le_refl _)
  have HC1 : (fun wz : World => wz.cell? ⟨g.rb, 0, none⟩ = some (.int .i64 (me : Int)) ∧ wz.cell? ⟨g.rb, 1, none⟩ = some (.int .i64 (n : Int)) ∧ Blk wz p #[.int .i64 a, .int .i64 b] 49) w2 := HCX.out _ hbd
  refine ⟨_, rfl, fun F30 => ?_⟩
  refine lyp F30 rfl HC1 rfl (by omega) (want_yes F30 rfl (e := 34) rfl (by omega) (show _ = Value.bool true from by simp [upd, ee0, ee1, ee3, ee6])) (v := Value.bool true) (fun wr hwr => by simp only [execOp, (F30.eval 35 (by omega)).trans (show _ = Value.agg #[Value.int .i64 a, Value.int .i64 b] from by simp [upd, ee0, ee1, ee3, ee6]), (F30.eval 37 (by omega)).trans (show _ = Value.agg #[Value.int .i64 er, Value.int .i64 ek] from by simp [upd, ee0, ee1, ee3, ee6])]; simp only [eql49i, g5, Sem.run_bind, Sem.run_pure, Result.andThen_ok]; simp [go_sem, eqGuard]) fun F31 => ?_
  refine lyp F31 rfl HC1 rfl (by omega) (wanted_none rfl) (v := Value.bool true) (fun wr hwr => by simp only [execOp, (F31.eval 34 (by omega)).trans (show _ = Value.bool true from by simp [upd, ee0, ee1, ee3, ee6]), (F31.eval 38 (by omega)).trans (show _ = Value.bool true from by simp [upd, ee0, ee1, ee3, ee6])]; simp [go_sem, Act.eval]) fun F32 => ?_
  refine lyp F32 rfl HC1 rfl (by omega) (wanted_none rfl) (v := Value.bool true) (fun wr hwr => by simp only [execOp, (F32.eval 39 (by omega)).trans (show _ = Value.bool true from by simp [upd, ee0, ee1, ee3, ee6])]; first | rfl | simp [go_sem]) fun F33 => ?_
  refine lyp F33 rfl HC1 rfl (by omega) (want_yes F33 rfl (e := 40) rfl (by omega) (show _ = Value.bool true from by simp [upd, ee0, ee1, ee3, ee6])) (v := Value.pointer (some ⟨p, 0, none⟩)) (fun wr hwr => by simp only [execOp, (F33.eval 6 (by omega)).trans (show _ = Value.pointer (some ⟨p, 0, none⟩) from by simp [upd, ee0, ee1, ee3, ee6])]; simp [go_sem]) fun F34 => ?_
  refine lyp F34 rfl HC1 rfl (by omega) (want_yes F34 rfl (e := 40) rfl (by omega) (show _ = Value.bool true from by simp [upd, ee0, ee1, ee3, ee6])) (v := Value.int .i64 a) (fun wr hwr => by have h0 := hwr.2.2.cell 0; simp only [execOp, (F34.eval 41 (by omega)).trans (show _ = Value.pointer (some ⟨p, 0, none⟩) from by simp [upd, ee0, ee1, ee3, ee6])]; simp [go_sem, h0]) fun F35 => ?_
  refine lyp F35 rfl HC1 rfl (by omega) (want_yes F35 rfl (e := 40) rfl (by omega) (show _ = Value.bool true from by simp [upd, ee0, ee1, ee3, ee6])) (v := Value.bool false) (fun wr hwr => by simp only [execOp, (F35.eval 42 (by omega)).trans (show _ = Value.int .i64 a from by simp [upd, ee0, ee1, ee3, ee6])]; simp [go_sem, Act.eval, g6]) fun F36 => ?_
  refine lep F36 rfl HC1 rfl (by omega) (wanted_none rfl) (v := Value.bool false) (w1 := w2) (by simp only [execOp, (F36.eval 40 (by omega)).trans (show _ = Value.bool true from by simp [upd, ee0, ee1, ee3, ee6]), (F36.eval 43 (by omega)).trans (show _ = Value.bool false from by simp [upd, ee0, ee1, ee3, ee6])]; simp [go_sem, Act.eval]) fun F37 => ?_
  refine ⟨fun h => by omega, ?_⟩
  refine hK _ _ ?_
  clear F0 F1 F2 F3 F4 F5 F6 F7 F8 F9 F10 F11 F12 F13 F14 F15 F16 F17 F18 F19 F20 F21 F22 F23 F24 F25 F26 F27 F28 F29 F30 F31 F32 F33 F34 F35 F36 F37 ee0 ee1 ee3 ee6 HC0 HC1
  simp only [Act.put, List.setIfInBounds_toArray, List.set_cons_succ, List.set_cons_zero]
  go_wp2_with fail
  exact end0n Try.results50 ⟨rfl, bgo HBW.out hbd (Nat.le_refl _)⟩
set_option maxRecDepth 100000 in
set_option maxHeartbeats 6400000 in
theorem rrep_7 {L me n : Nat} {g : RG} {x : EV} {r : RV} (f a b h er ek : Int) (w : World) (hM : RM L g r w) (ha : Agr x r) (hx : x.Nm) (hE : liveE x x.me = ⟨er, ek⟩) (hme : r.me = me) (hn : r.n = n) (g0 : (f != (me : Int)) = true) (g1 : 0 ≤ f) (g2 : f < (n : Int)) (g3 : 0 ≤ h) (g4 : h ≤ 1099511627776) (g5 : sameE a b er ek = true) (g6 : 0 < a) (hlen : r.nt.length ≤ 999999990) : Calls Try.prog 50 #[.pointer (some ⟨g.rb, 0, none⟩), .int .i64 f, .agg #[.int .i64 a, .int .i64 b], .int .i64 h] w fun e w' => e = .returned (.tuple #[]) ∧ ∃ g', RM L g' { r with nt := r.nt ++ [⟨f, h, ⟨a, b⟩⟩] } w' ∧ RStp g g' w w' := by
  have HM : Hid _ := hM
  obtain ⟨W, hW⟩ : ∃ W, W = w.alloc (.cells #[.int .i64 a, .int .i64 b] 49) := ⟨_, rfl⟩
  have hB : Blk W w.heap.size #[.int .i64 a, .int .i64 b] 49 := by rw [hW]; exact heap_alloc_new w _
  have hbW : Below w.heap.size w W := by rw [hW]; exact (Below.refl _ _).alloc (Nat.le_refl _) _
  obtain ⟨p, hp⟩ : ∃ p, p = w.heap.size := ⟨_, rfl⟩
  rw [← hp] at hB
  have HQN : Hid (¬ rown g p) := show ¬ rown g p from fun hk => by have := (hM.lt hk).2; omega
  have HO : Hid (Calls Try.prog 46 #[.pointer (some ⟨g.rb, 0, none⟩)] W.drew fun e w' => e = .returned (epV ⟨er, ek⟩) ∧ Below W.drew.heap.size W.drew w') := show Calls _ _ _ _ _ from by rw [← hE]; exact rown_any W.drew (hM.more hbW.drew) ha hx
  have HCX : Hid (∀ W2, Below W.heap.size W W2 → W2.cell? ⟨g.rb, 0, none⟩ = some (.int .i64 (me : Int)) ∧ W2.cell? ⟨g.rb, 1, none⟩ = some (.int .i64 (n : Int)) ∧ Blk W2 p #[.int .i64 a, .int .i64 b] 49) := fun W2 h2 => ⟨by rw [← hme]; exact (hM.more (bgo hbW h2 (Nat.le_refl _))).c0, by rw [← hn]; exact (hM.more (bgo hbW h2 (Nat.le_refl _))).c1, hB.up h2⟩
  have HBW : Hid _ := hbW
  have HW : Hid _ := hW
  have HP : Hid _ := hp
  have HLEN : Hid (r.nt.length ≤ 1000000000) := show r.nt.length ≤ 1000000000 from by omega
  clear hlen
  clear hM ha hx hE hme hn hB hbW
  unfold epV at *
  go_enter Try.func50, Try.ntmps50
  go_upto_region 1 with fail
  try rw [← HW.out]
  try rw [← HP.out]
  clear HW hW hp
  rename_i K hK
  try rw [show ∀ a : Act, a.put none undef = a from fun _ => rfl]
  have hDR : Below W.heap.size W ({ W with drawn := W.drawn + 1 } : World) := (Below.refl _ _).drew
  have HC0 : (fun wz : World => wz.cell? ⟨g.rb, 0, none⟩ = some (.int .i64 (me : Int)) ∧ wz.cell? ⟨g.rb, 1, none⟩ = some (.int .i64 (n : Int)) ∧ Blk wz p #[.int .i64 a, .int .i64 b] 49) ({ W with drawn := W.drawn + 1 } : World) := HCX.out _ hDR
  refine wp_region_mix (fun wz : World => wz.cell? ⟨g.rb, 0, none⟩ = some (.int .i64 (me : Int)) ∧ wz.cell? ⟨g.rb, 1, none⟩ = some (.int .i64 (n : Int)) ∧ Blk wz p #[.int .i64 a, .int .i64 b] 49) (fun i => i == 29 || i == 36) 36 (by kernel_rfl) rfl (by kernel_rfl) (by kernel_rfl) (by kernel_rfl) ?_
  refine withFrP (N := 58) rfl ?_
  intro f0 F0 hff
  have ee0 : f0 0 = Value.pointer (some ⟨g.rb, 0, none⟩) := hff 0
  have ee1 : f0 1 = Value.int .i64 f := hff 1
  have ee3 : f0 3 = Value.int .i64 h := hff 3
  have ee6 : f0 6 = Value.pointer (some ⟨p, 0, none⟩) := hff 6
  clear hff
  refine lyp F0 rfl HC0 rfl (by omega) (wanted_none rfl) (v := Value.int .i64 f) (fun wr hwr => by simp only [execOp, (F0.eval 1 (by omega)).trans (show _ = Value.int .i64 f from by simp [upd, ee0, ee1, ee3, ee6])]; first | rfl | simp [go_sem]) fun F1 => ?_
  refine lyp F1 rfl HC0 rfl (by omega) (wanted_none rfl) (v := Value.pointer (some ⟨g.rb, 0, none⟩)) (fun wr hwr => by simp only [execOp, (F1.eval 0 (by omega)).trans (show _ = Value.pointer (some ⟨g.rb, 0, none⟩) from by simp [upd, ee0, ee1, ee3, ee6])]; first | rfl | simp [go_sem]) fun F2 => ?_
  refine lyp F2 rfl HC0 rfl (by omega) (wanted_none rfl) (v := Value.pointer (some ⟨g.rb, 0, none⟩)) (fun wr hwr => by simp only [execOp, (F2.eval 9 (by omega)).trans (show _ = Value.pointer (some ⟨g.rb, 0, none⟩) from by simp [upd, ee0, ee1, ee3, ee6])]; simp [go_sem]) fun F3 => ?_
  refine lyp F3 rfl HC0 rfl (by omega) (wanted_none rfl) (v := Value.pointer (some ⟨g.rb, 0, none⟩)) (fun wr hwr => by simp only [execOp, (F3.eval 10 (by omega)).trans (show _ = Value.pointer (some ⟨g.rb, 0, none⟩) from by simp [upd, ee0, ee1, ee3, ee6])]; simp [go_sem]) fun F4 => ?_
  refine lyp F4 rfl HC0 rfl (by omega) (wanted_none rfl) (v := Value.int .i64 (me : Int)) (fun wr hwr => by simp only [execOp, (F4.eval 11 (by omega)).trans (show _ = Value.pointer (some ⟨g.rb, 0, none⟩) from by simp [upd, ee0, ee1, ee3, ee6])]; simp [go_sem, hwr.1]) fun F5 => ?_
  refine lyp F5 rfl HC0 rfl (by omega) (wanted_none rfl) (v := Value.bool true) (fun wr hwr => by simp only [execOp, (F5.eval 8 (by omega)).trans (show _ = Value.int .i64 f from by simp [upd, ee0, ee1, ee3, ee6]), (F5.eval 12 (by omega)).trans (show _ = Value.int .i64 (me : Int) from by simp [upd, ee0, ee1, ee3, ee6])]; simp [go_sem, Act.eval, g0]) fun F6 => ?_
  refine lyp F6 rfl HC0 rfl (by omega) (wanted_none rfl) (v := Value.bool true) (fun wr hwr => by simp only [execOp, (F6.eval 13 (by omega)).trans (show _ = Value.bool true from by simp [upd, ee0, ee1, ee3, ee6])]; first | rfl | simp [go_sem]) fun F7 => ?_
  refine lyp F7 rfl HC0 rfl (by omega) (want_yes F7 rfl (e := 14) rfl (by omega) (show _ = Value.bool true from by simp [upd, ee0, ee1, ee3, ee6])) (v := Value.int .i64 f) (fun wr hwr => by simp only [execOp, (F7.eval 1 (by omega)).trans (show _ = Value.int .i64 f from by simp [upd, ee0, ee1, ee3, ee6])]; first | rfl | simp [go_sem]) fun F8 => ?_
  refine lyp F8 rfl HC0 rfl (by omega) (want_yes F8 rfl (e := 14) rfl (by omega) (show _ = Value.bool true from by simp [upd, ee0, ee1, ee3, ee6])) (v := Value.bool true) (fun wr hwr => by simp only [execOp, (F8.eval 15 (by omega)).trans (show _ = Value.int .i64 f from by simp [upd, ee0, ee1, ee3, ee6])]; simp [go_sem, Act.eval, g1]) fun F9 => ?_
  refine lyp F9 rfl HC0 rfl (by omega) (wanted_none rfl) (v := Value.bool true) (fun wr hwr => by simp only [execOp, (F9.eval 14 (by omega)).trans (show _ = Value.bool true from by simp [upd, ee0, ee1, ee3, ee6]), (F9.eval 16 (by omega)).trans (show _ = Value.bool true from by simp [upd, ee0, ee1, ee3, ee6])]; simp [go_sem, Act.eval]) fun F10 => ?_
  refine lyp F10 rfl HC0 rfl (by omega) (wanted_none rfl) (v := Value.bool true) (fun wr hwr => by simp only [execOp, (F10.eval 17 (by omega)).trans (show _ = Value.bool true from by simp [upd, ee0, ee1, ee3, ee6])]; first | rfl | simp [go_sem]) fun F11 => ?_
  refine lyp F11 rfl HC0 rfl (by omega) (want_yes F11 rfl (e := 18) rfl (by omega) (show _ = Value.bool true from by simp [upd, ee0, ee1, ee3, ee6])) (v := Value.int .i64 f) (fun wr hwr => by simp only [execOp, (F11.eval 1 (by omega)).trans (show _ = Value.int .i64 f from by simp [upd, ee0, ee1, ee3, ee6])]; first | rfl | simp [go_sem]) fun F12 => ?_
  refine lyp F12 rfl HC0 rfl (by omega) (want_yes F12 rfl (e := 18) rfl (by omega) (show _ = Value.bool true from by simp [upd, ee0, ee1, ee3, ee6])) (v := Value.pointer (some ⟨g.rb, 0, none⟩)) (fun wr hwr => by simp only [execOp, (F12.eval 0 (by omega)).trans (show _ = Value.pointer (some ⟨g.rb, 0, none⟩) from by simp [upd, ee0, ee1, ee3, ee6])]; first | rfl | simp [go_sem]) fun F13 => ?_
  refine lyp F13 rfl HC0 rfl (by omega) (want_yes F13 rfl (e := 18) rfl (by omega) (show _ = Value.bool true from by simp [upd, ee0, ee1, ee3, ee6])) (v := Value.pointer (some ⟨g.rb, 0, none⟩)) (fun wr hwr => by simp only [execOp, (F13.eval 20 (by omega)).trans (show _ = Value.pointer (some ⟨g.rb, 0, none⟩) from by simp [upd, ee0, ee1, ee3, ee6])]; simp [go_sem]) fun F14 => ?_
  refine lyp F14 rfl HC0 rfl (by omega) (want_yes F14 rfl (e := 18) rfl (by omega) (show _ = Value.bool true from by simp [upd, ee0, ee1, ee3, ee6])) (v := Value.pointer (some ⟨g.rb, 1, none⟩)) (fun wr hwr => by simp only [execOp, (F14.eval 21 (by omega)).trans (show _ = Value.pointer (some ⟨g.rb, 0, none⟩) from by simp [upd, ee0, ee1, ee3, ee6])]; simp [go_sem]) fun F15 => ?_
  refine lyp F15 rfl HC0 rfl (by omega) (want_yes F15 rfl (e := 18) rfl (by omega) (show _ = Value.bool true from by simp [upd, ee0, ee1, ee3, ee6])) (v := Value.int .i64 (n : Int)) (fun wr hwr => by simp only [execOp, (F15.eval 22 (by omega)).trans (show _ = Value.pointer (some ⟨g.rb, 1, none⟩) from by simp [upd, ee0, ee1, ee3, ee6])]; simp [go_sem, hwr.2.1]) fun F16 => ?_
  refine lyp F16 rfl HC0 rfl (by omega) (want_yes F16 rfl (e := 18) rfl (by omega) (show _ = Value.bool true from by simp [upd, ee0, ee1, ee3, ee6])) (v := Value.bool true) (fun wr hwr => by simp only [execOp, (F16.eval 19 (by omega)).trans (show _ = Value.int .i64 f from by simp [upd, ee0, ee1, ee3, ee6]), (F16.eval 23 (by omega)).trans (show _ = Value.int .i64 (n : Int) from by simp [upd, ee0, ee1, ee3, ee6])]; simp [go_sem, Act.eval, g2]) fun F17 => ?_
  refine lyp F17 rfl HC0 rfl (by omega) (wanted_none rfl) (v := Value.bool true) (fun wr hwr => by simp only [execOp, (F17.eval 18 (by omega)).trans (show _ = Value.bool true from by simp [upd, ee0, ee1, ee3, ee6]), (F17.eval 24 (by omega)).trans (show _ = Value.bool true from by simp [upd, ee0, ee1, ee3, ee6])]; simp [go_sem, Act.eval]) fun F18 => ?_
  refine lyp F18 rfl HC0 rfl (by omega) (wanted_none rfl) (v := Value.bool true) (fun wr hwr => by simp only [execOp, (F18.eval 25 (by omega)).trans (show _ = Value.bool true from by simp [upd, ee0, ee1, ee3, ee6])]; first | rfl | simp [go_sem]) fun F19 => ?_
  refine lyp F19 rfl HC0 rfl (by omega) (want_yes F19 rfl (e := 26) rfl (by omega) (show _ = Value.bool true from by simp [upd, ee0, ee1, ee3, ee6])) (v := Value.int .i64 h) (fun wr hwr => by simp only [execOp, (F19.eval 3 (by omega)).trans (show _ = Value.int .i64 h from by simp [upd, ee0, ee1, ee3, ee6])]; first | rfl | simp [go_sem]) fun F20 => ?_
  refine lyp F20 rfl HC0 rfl (by omega) (want_yes F20 rfl (e := 26) rfl (by omega) (show _ = Value.bool true from by simp [upd, ee0, ee1, ee3, ee6])) (v := Value.bool true) (fun wr hwr => by simp only [execOp, (F20.eval 27 (by omega)).trans (show _ = Value.int .i64 h from by simp [upd, ee0, ee1, ee3, ee6])]; simp [go_sem, Act.eval, g3]) fun F21 => ?_
  refine lyp F21 rfl HC0 rfl (by omega) (wanted_none rfl) (v := Value.bool true) (fun wr hwr => by simp only [execOp, (F21.eval 26 (by omega)).trans (show _ = Value.bool true from by simp [upd, ee0, ee1, ee3, ee6]), (F21.eval 28 (by omega)).trans (show _ = Value.bool true from by simp [upd, ee0, ee1, ee3, ee6])]; simp [go_sem, Act.eval]) fun F22 => ?_
  refine lyp F22 rfl HC0 rfl (by omega) (wanted_none rfl) (v := Value.bool true) (fun wr hwr => by simp only [execOp, (F22.eval 29 (by omega)).trans (show _ = Value.bool true from by simp [upd, ee0, ee1, ee3, ee6])]; first | rfl | simp [go_sem]) fun F23 => ?_
  refine lyp F23 rfl HC0 rfl (by omega) (want_yes F23 rfl (e := 30) rfl (by omega) (show _ = Value.bool true from by simp [upd, ee0, ee1, ee3, ee6])) (v := Value.int .i64 h) (fun wr hwr => by simp only [execOp, (F23.eval 3 (by omega)).trans (show _ = Value.int .i64 h from by simp [upd, ee0, ee1, ee3, ee6])]; first | rfl | simp [go_sem]) fun F24 => ?_
  refine lyp F24 rfl HC0 rfl (by omega) (want_yes F24 rfl (e := 30) rfl (by omega) (show _ = Value.bool true from by simp [upd, ee0, ee1, ee3, ee6])) (v := Value.bool true) (fun wr hwr => by simp only [execOp, (F24.eval 31 (by omega)).trans (show _ = Value.int .i64 h from by simp [upd, ee0, ee1, ee3, ee6])]; simp [go_sem, Act.eval, g4]) fun F25 => ?_
  refine lyp F25 rfl HC0 rfl (by omega) (wanted_none rfl) (v := Value.bool true) (fun wr hwr => by simp only [execOp, (F25.eval 30 (by omega)).trans (show _ = Value.bool true from by simp [upd, ee0, ee1, ee3, ee6]), (F25.eval 32 (by omega)).trans (show _ = Value.bool true from by simp [upd, ee0, ee1, ee3, ee6])]; simp [go_sem, Act.eval]) fun F26 => ?_
  refine lyp F26 rfl HC0 rfl (by omega) (wanted_none rfl) (v := Value.bool true) (fun wr hwr => by simp only [execOp, (F26.eval 33 (by omega)).trans (show _ = Value.bool true from by simp [upd, ee0, ee1, ee3, ee6])]; first | rfl | simp [go_sem]) fun F27 => ?_
  refine lyp F27 rfl HC0 rfl (by omega) (want_yes F27 rfl (e := 34) rfl (by omega) (show _ = Value.bool true from by simp [upd, ee0, ee1, ee3, ee6])) (v := Value.agg #[Value.int .i64 a, Value.int .i64 b]) (fun wr hwr => by have h0 := hwr.2.2.cell 0; have h1 := hwr.2.2.cell 1; simp only [execOp, (F27.eval 6 (by omega)).trans (show _ = Value.pointer (some ⟨p, 0, none⟩) from by simp [upd, ee0, ee1, ee3, ee6])]; simp [go_sem, h0, h1]) fun F28 => ?_
  refine lyp F28 rfl HC0 rfl (by omega) (want_yes F28 rfl (e := 34) rfl (by omega) (show _ = Value.bool true from by simp [upd, ee0, ee1, ee3, ee6])) (v := Value.pointer (some ⟨g.rb, 0, none⟩)) (fun wr hwr => by simp only [execOp, (F28.eval 0 (by omega)).trans (show _ = Value.pointer (some ⟨g.rb, 0, none⟩) from by simp [upd, ee0, ee1, ee3, ee6])]; first | rfl | simp [go_sem]) fun F29 => ?_
  refine lcp F29 rfl HC0 rfl (by omega) (want_yes F29 rfl (e := 34) rfl (by omega) (show _ = Value.bool true from by simp [upd, ee0, ee1, ee3, ee6])) (g := 46) (args := #[Value.pointer (some ⟨g.rb, 0, none⟩)]) (by simp only [execOp, resolve, invoke, List.map_toArray, List.map_cons, List.map_nil, (F29.eval 36 (by omega)).trans (show _ = Value.pointer (some ⟨g.rb, 0, none⟩) from by simp [upd, ee0, ee1, ee3, ee6])]; simp [go_sem, Act.eval]) HO.out ?_
  rintro e w2 ⟨rfl, hb2⟩
  have hbd : Below W.heap.size W w2 := bgo hDR hb2 (Nat.le_refl _)
  have HC1 : (fun wz : World => wz.cell? ⟨g.rb, 0, none⟩ = some (.int .i64 (me : Int)) ∧ wz.cell? ⟨g.rb, 1, none⟩ = some (.int .i64 (n : Int)) ∧ Blk wz p #[.int .i64 a, .int .i64 b] 49) w2 := HCX.out _ hbd
  refine ⟨_, rfl, fun F30 => ?_⟩
  refine lyp F30 rfl HC1 rfl (by omega) (want_yes F30 rfl (e := 34) rfl (by omega) (show _ = Value.bool true from by simp [upd, ee0, ee1, ee3, ee6])) (v := Value.bool true) (fun wr hwr => by simp only [execOp, (F30.eval 35 (by omega)).trans (show _ = Value.agg #[Value.int .i64 a, Value.int .i64 b] from by simp [upd, ee0, ee1, ee3, ee6]), (F30.eval 37 (by omega)).trans (show _ = Value.agg #[Value.int .i64 er, Value.int .i64 ek] from by simp [upd, ee0, ee1, ee3, ee6])]; simp only [eql49i, g5, Sem.run_bind, Sem.run_pure, Result.andThen_ok]; simp [go_sem, eqGuard]) fun F31 => ?_
  refine lyp F31 rfl HC1 rfl (by omega) (wanted_none rfl) (v := Value.bool true) (fun wr hwr => by simp only [execOp, (F31.eval 34 (by omega)).trans (show _ = Value.bool true from by simp [upd, ee0, ee1, ee3, ee6]), (F31.eval 38 (by omega)).trans (show _ = Value.bool true from by simp [upd, ee0, ee1, ee3, ee6])]; simp [go_sem, Act.eval]) fun F32 => ?_
  refine lyp F32 rfl HC1 rfl (by omega) (wanted_none rfl) (v := Value.bool true) (fun wr hwr => by simp only [execOp, (F32.eval 39 (by omega)).trans (show _ = Value.bool true from by simp [upd, ee0, ee1, ee3, ee6])]; first | rfl | simp [go_sem]) fun F33 => ?_
  refine lyp F33 rfl HC1 rfl (by omega) (want_yes F33 rfl (e := 40) rfl (by omega) (show _ = Value.bool true from by simp [upd, ee0, ee1, ee3, ee6])) (v := Value.pointer (some ⟨p, 0, none⟩)) (fun wr hwr => by simp only [execOp, (F33.eval 6 (by omega)).trans (show _ = Value.pointer (some ⟨p, 0, none⟩) from by simp [upd, ee0, ee1, ee3, ee6])]; simp [go_sem]) fun F34 => ?_
  refine lyp F34 rfl HC1 rfl (by omega) (want_yes F34 rfl (e := 40) rfl (by omega) (show _ = Value.bool true from by simp [upd, ee0, ee1, ee3, ee6])) (v := Value.int .i64 a) (fun wr hwr => by have h0 := hwr.2.2.cell 0; simp only [execOp, (F34.eval 41 (by omega)).trans (show _ = Value.pointer (some ⟨p, 0, none⟩) from by simp [upd, ee0, ee1, ee3, ee6])]; simp [go_sem, h0]) fun F35 => ?_
  refine lyp F35 rfl HC1 rfl (by omega) (want_yes F35 rfl (e := 40) rfl (by omega) (show _ = Value.bool true from by simp [upd, ee0, ee1, ee3, ee6])) (v := Value.bool true) (fun wr hwr => by simp only [execOp, (F35.eval 42 (by omega)).trans (show _ = Value.int .i64 a from by simp [upd, ee0, ee1, ee3, ee6])]; simp [go_sem, Act.eval, g6]) fun F36 => ?_
  refine lep F36 rfl HC1 rfl (by omega) (wanted_none rfl) (v := Value.bool true) (w1 := w2) (by simp only [execOp, (F36.eval 40 (by omega)).trans (show _ = Value.bool true from by simp [upd, ee0, ee1, ee3, ee6]), (F36.eval 43 (by omega)).trans (show _ = Value.bool true from by simp [upd, ee0, ee1, ee3, ee6])]; simp [go_sem, Act.eval]) fun F37 => ?_
  refine ⟨fun h => by omega, ?_⟩
  refine hK _ _ ?_
  clear F0 F1 F2 F3 F4 F5 F6 F7 F8 F9 F10 F11 F12 F13 F14 F15 F16 F17 F18 F19 F20 F21 F22 F23 F24 F25 F26 F27 F28 F29 F30 F31 F32 F33 F34 F35 F36 F37 ee0 ee1 ee3 ee6 HC0 HC1
  simp only [Act.put, List.setIfInBounds_toArray, List.set_cons_succ, List.set_cons_zero]
  have HMX : Hid (RM L g r w2) := show RM _ _ _ _ from HM.out.more (bgo HBW.out hbd (Nat.le_refl _))
  have HBX : Hid (Blk w2 p #[.int .i64 a, .int .i64 b] 49) := (HCX.out _ hbd).2.2
  have HBB : Hid (Below w.heap.size w w2) := bgo HBW.out hbd (Nat.le_refl _)
  clear hDR hbd hb2
  go_upto_region 2 with fail
  try rw [show ∀ a : Act, a.put none undef = a from fun _ => rfl]
  have hDR : Below w2.heap.size w2 ({ w2 with drawn := w2.drawn + 1 } : World) := (Below.refl _ _).drew
  have HMD : Hid (RM L g r ({ w2 with drawn := w2.drawn + 1 } : World)) := show RM L g r _ from HMX.out.more hDR
  obtain ⟨v8, w8, hr8, hB8, hC8, hR8, hS8⟩ := HMD.out.addN ⟨f, h, ⟨a, b⟩⟩ HLEN.out
  obtain ⟨ao8, n8, c8, hv8⟩ : ∃ ao n c, v8 = Value.slice ao n c := by obtain ⟨ao, c, h, _⟩ := own_slice hR8.t; exact ⟨_, _, _, h⟩
  subst hv8
  have HR8 : Hid _ := hR8
  have HS8 : Hid _ := hS8
  clear hR8 hS8
  have HC0 : (fun wz : World => wz.cell? ⟨g.rb, 4, none⟩ = some g.vn ∧ Blk wz p #[.int .i64 a, .int .i64 b] 49) ({ w2 with drawn := w2.drawn + 1 } : World) := ⟨HMD.out.c4, HBX.out⟩
  have hqn : g.vn.ownBlock ≠ some p := fun e => HQN.out (.inr (.inr (.inr e)))
  have HCA : (fun wz : World => wz.cell? ⟨g.rb, 4, none⟩ = some g.vn ∧ Blk wz p #[.int .i64 a, .int .i64 b] 49) (World.alloc ({ w2 with drawn := w2.drawn + 1 } : World) (.cells #[.int .i64 f, .int .i64 h, .int .i64 a, .int .i64 b] 119)) := ⟨(Below.cell (Below.alloc (Below.refl _ _) (Nat.le_refl _) _) (World.block_lt_of_cell? _ _ HC0.1)).trans HC0.1, Blk.allc HC0.2 _⟩
  have HC9 : (fun wz : World => wz.cell? ⟨g.rb, 4, none⟩ = some g.vn ∧ Blk wz p #[.int .i64 a, .int .i64 b] 49) w8 := ⟨(hB8.cell 4).trans rfl, hC8.blk HC0.2 hqn⟩
  refine wp_region_mix (fun wz : World => wz.cell? ⟨g.rb, 4, none⟩ = some g.vn ∧ Blk wz p #[.int .i64 a, .int .i64 b] 49) (fun i => i == 9 || i == 10 || i == 13) 13 (by kernel_rfl) rfl (by kernel_rfl) (by kernel_rfl) (by kernel_rfl) ?_
  refine withFrP (N := 58) rfl ?_
  intro f0 F0 hff
  have ee0 : f0 0 = Value.pointer (some ⟨g.rb, 0, none⟩) := hff 0
  have ee1 : f0 1 = Value.int .i64 f := hff 1
  have ee3 : f0 3 = Value.int .i64 h := hff 3
  have ee6 : f0 6 = Value.pointer (some ⟨p, 0, none⟩) := hff 6
  clear hff
  refine lyp F0 rfl HC0 rfl (by omega) (wanted_none rfl) (v := Value.pointer (some ⟨g.rb, 0, none⟩)) (fun wr hwr => by simp only [execOp, (F0.eval 0 (by omega)).trans (show _ = Value.pointer (some ⟨g.rb, 0, none⟩) from by simp [upd, ee0, ee1, ee3, ee6])]; first | rfl | simp [go_sem]) fun F1 => ?_
  refine lyp F1 rfl HC0 rfl (by omega) (wanted_none rfl) (v := Value.pointer (some ⟨g.rb, 0, none⟩)) (fun wr hwr => by simp only [execOp, (F1.eval 0 (by omega)).trans (show _ = Value.pointer (some ⟨g.rb, 0, none⟩) from by simp [upd, ee0, ee1, ee3, ee6])]; first | rfl | simp [go_sem]) fun F2 => ?_
  refine lyp F2 rfl HC0 rfl (by omega) (wanted_none rfl) (v := Value.pointer (some ⟨g.rb, 0, none⟩)) (fun wr hwr => by simp only [execOp, (F2.eval 46 (by omega)).trans (show _ = Value.pointer (some ⟨g.rb, 0, none⟩) from by simp [upd, ee0, ee1, ee3, ee6])]; simp [go_sem]) fun F3 => ?_
  refine lyp F3 rfl HC0 rfl (by omega) (wanted_none rfl) (v := Value.pointer (some ⟨g.rb, 4, none⟩)) (fun wr hwr => by simp only [execOp, (F3.eval 47 (by omega)).trans (show _ = Value.pointer (some ⟨g.rb, 0, none⟩) from by simp [upd, ee0, ee1, ee3, ee6])]; simp [go_sem]) fun F4 => ?_
  refine lyp F4 rfl HC0 rfl (by omega) (wanted_none rfl) (v := g.vn) (fun wr hwr => by simp only [execOp, (F4.eval 48 (by omega)).trans (show _ = Value.pointer (some ⟨g.rb, 4, none⟩) from by simp [upd, ee0, ee1, ee3, ee6])]; simp [go_sem, hwr.1]) fun F5 => ?_
  refine lyp F5 rfl HC0 rfl (by omega) (wanted_none rfl) (v := Value.int .i64 f) (fun wr hwr => by simp only [execOp, (F5.eval 1 (by omega)).trans (show _ = Value.int .i64 f from by simp [upd, ee0, ee1, ee3, ee6])]; first | rfl | simp [go_sem]) fun F6 => ?_
  refine lyp F6 rfl HC0 rfl (by omega) (wanted_none rfl) (v := Value.int .i64 h) (fun wr hwr => by simp only [execOp, (F6.eval 3 (by omega)).trans (show _ = Value.int .i64 h from by simp [upd, ee0, ee1, ee3, ee6])]; first | rfl | simp [go_sem]) fun F7 => ?_
  refine lyp F7 rfl HC0 rfl (by omega) (wanted_none rfl) (v := Value.agg #[Value.int .i64 a, Value.int .i64 b]) (fun wr hwr => by have h0 := hwr.2.cell 0; have h1 := hwr.2.cell 1; simp only [execOp, (F7.eval 6 (by omega)).trans (show _ = Value.pointer (some ⟨p, 0, none⟩) from by simp [upd, ee0, ee1, ee3, ee6])]; simp [go_sem, h0, h1]) fun F8 => ?_
  refine lyp F8 rfl HC0 rfl (by omega) (wanted_none rfl) (v := Value.agg #[Value.int .i64 f, Value.int .i64 h, Value.int .i64 a, Value.int .i64 b]) (fun wr hwr => by simp only [execOp, List.map_toArray, List.map_cons, List.map_nil, (F8.eval 50 (by omega)).trans (show _ = Value.int .i64 f from by simp [upd, ee0, ee1, ee3, ee6]), (F8.eval 51 (by omega)).trans (show _ = Value.int .i64 h from by simp [upd, ee0, ee1, ee3, ee6]), (F8.eval 52 (by omega)).trans (show _ = Value.agg #[Value.int .i64 a, Value.int .i64 b] from by simp [upd, ee0, ee1, ee3, ee6])]; simp [go_sem, Act.eval]) fun F9 => ?_
  refine lep F9 rfl HC0 rfl (by omega) (wanted_none rfl) (v := Value.slice (some ⟨({ w2 with drawn := w2.drawn + 1 } : World).heap.size, 0, none⟩) 1 1) (w1 := (World.alloc ({ w2 with drawn := w2.drawn + 1 } : World) (.cells #[.int .i64 f, .int .i64 h, .int .i64 a, .int .i64 b] 119))) (by simp only [execOp, List.map_toArray, List.map_cons, List.map_nil, (F9.eval 53 (by omega)).trans (show _ = Value.agg #[Value.int .i64 f, Value.int .i64 h, Value.int .i64 a, Value.int .i64 b] from by simp [upd, ee0, ee1, ee3, ee6])]; simp [go_sem]) fun F10 => ?_
  refine lep F10 rfl HCA rfl (by omega) (wanted_none rfl) (v := Value.slice ao8 n8 c8) (w1 := w8) (by simp only [execOp, resolve, invoke, builtin, List.map_toArray, List.map_cons, List.map_nil, (F10.eval 49 (by omega)).trans (show _ = g.vn from by simp [upd, ee0, ee1, ee3, ee6]), (F10.eval 54 (by omega)).trans (show _ = Value.slice (some ⟨({ w2 with drawn := w2.drawn + 1 } : World).heap.size, 0, none⟩) 1 1 from by simp [upd, ee0, ee1, ee3, ee6])]; simp only [Sem.run_bind, Sem.run_pure, Result.andThen_ok, hr8]; try rfl) fun F11 => ?_
  refine lyp F11 rfl HC9 rfl (by omega) (wanted_none rfl) (v := Value.pointer (some ⟨g.rb, 0, none⟩)) (fun wr hwr => by simp only [execOp, (F11.eval 45 (by omega)).trans (show _ = Value.pointer (some ⟨g.rb, 0, none⟩) from by simp [upd, ee0, ee1, ee3, ee6])]; simp [go_sem]) fun F12 => ?_
  refine lyp F12 rfl HC9 rfl (by omega) (wanted_none rfl) (v := Value.pointer (some ⟨g.rb, 4, none⟩)) (fun wr hwr => by simp only [execOp, (F12.eval 56 (by omega)).trans (show _ = Value.pointer (some ⟨g.rb, 0, none⟩) from by simp [upd, ee0, ee1, ee3, ee6])]; simp [go_sem]) fun F13 => ?_
  refine lst rfl HC9 rfl (wanted_none rfl) (w1 := w8.setCell ⟨g.rb, 4, none⟩ (Value.slice ao8 n8 c8)) (by simp only [execOp, (F13.eval 57 (by omega)).trans (show _ = Value.pointer (some ⟨g.rb, 4, none⟩) from by simp [upd, ee0, ee1, ee3, ee6]), (F13.eval 55 (by omega)).trans (show _ = Value.slice ao8 n8 c8 from by simp [upd, ee0, ee1, ee3, ee6])]; simp [go_sem, hB8.frozen 4, show w8.cell? ⟨g.rb, 4, none⟩ = some g.vn from HC9.1]) ?_
  refine ⟨fun h => by omega, ?_⟩
  clear F0 F1 F2 F3 F4 F5 F6 F7 F8 F9 F10 F11 F12 F13 ee0 ee1 ee3 ee6 HC0 HCA HC9 hr8 hB8 hqn hC8 HMD
  simp only [Act.put, List.setIfInBounds_toArray, List.set_cons_succ, List.set_cons_zero]
  exact end0n Try.results50 ⟨rfl, _, HR8.out, (RStp.refl (bgo HBB.out hDR (Nat.le_refl _))).trans HS8.out⟩
def repR (x : EV) (r : RV) (f : Int) (e : Ep) (h : Int) : RV := if repOk x f e h = true then { r with nt := r.nt ++ [⟨f, h, e⟩] } else r
theorem Agr.rep {x : EV} {r : RV} (ha : Agr x r) (f : Int) (e : Ep) (h : Int) : Agr (repX x f e h) (repR x r f e h) := by
  unfold repR
  by_cases hk : repOk x f e h = true
  · rw [if_pos hk]; exact ha.reports hk
  · rw [if_neg hk]
    unfold repX
    rw [if_neg hk]
    exact ha
theorem rrep_any {L : Nat} {g : RG} {x : EV} {r : RV} (f : Int) (e : Ep) (h : Int) (w : World) (hM : RM L g r w) (ha : Agr x r) (hx : x.Nm) (hlen : r.nt.length ≤ 999999990) : Calls Try.prog 50 #[.pointer (some ⟨g.rb, 0, none⟩), .int .i64 f, epV e, .int .i64 h] w fun q w' => q = .returned (.tuple #[]) ∧ ∃ g', RM L g' (repR x r f e h) w' ∧ RStp g g' w w' := by
  obtain ⟨a, b⟩ := e
  obtain ⟨er, ek, hE⟩ : ∃ er ek, liveE x x.me = ⟨er, ek⟩ := ⟨_, _, rfl⟩
  have hor := liveE_nn ha x.me
  have hme := ha.me
  have hn := ha.n
  have hrk : repOk x f ⟨a, b⟩ h = true ↔ (⟨er, ek⟩ : Ep) ≠ e0 ∧ (⟨a, b⟩ : Ep) = ⟨er, ek⟩ ∧ (0 ≤ f ∧ f < x.n ∧ f ≠ x.me) ∧ (0 ≤ h ∧ h ≤ 1099511627776) := by
    unfold repOk peerB cnt
    rw [hE]
    simp only [Bool.and_eq_true, Bool.not_eq_true', decide_eq_false_iff_not, decide_eq_true_eq, and_assoc, ne_eq]
  have no : ∀ {q : Ending} {w' : World}, ¬ repOk x f ⟨a, b⟩ h = true → (q = .returned (.tuple #[]) ∧ Below w.heap.size w w') → q = .returned (.tuple #[]) ∧ ∃ g', RM L g' (repR x r f ⟨a, b⟩ h) w' ∧ RStp g g' w w' := by
    rintro q w' hc ⟨rfl, hb⟩
    unfold repR
    rw [if_neg hc]
    exact ⟨rfl, g, hM.more hb, RStp.refl hb⟩
  have f5 : sameE a b er ek = decide ((⟨a, b⟩ : Ep) = ⟨er, ek⟩) := rfl
  by_cases h0 : f = (x.me : Int)
  · exact (rrep_0 f a b h er ek w hM ha hx hE hme hn (by simp [h0])).mono fun q w' hp => no (fun k => (hrk.1 k).2.2.1.2.2 h0) hp
  have g0 : (f != (x.me : Int)) = true := by simp [h0]
  by_cases g1 : 0 ≤ f
  · by_cases g2 : f < (x.n : Int)
    · by_cases g3 : 0 ≤ h
      · by_cases g4 : h ≤ 1099511627776
        · by_cases g5 : (⟨a, b⟩ : Ep) = ⟨er, ek⟩
          · have g5' : sameE a b er ek = true := by rw [f5]; simpa using g5
            by_cases g6 : 0 < a
            · have hne : (⟨er, ek⟩ : Ep) ≠ e0 := fun q => by
                have := congrArg Ep.r (g5.trans q)
                have e1 : e0.r = 0 := rfl
                simp only [e1] at this
                omega
              unfold repR
              rw [if_pos (hrk.2 ⟨hne, g5, ⟨g1, g2, h0⟩, g3, g4⟩)]
              exact rrep_7 f a b h er ek w hM ha hx hE hme hn g0 g1 g2 g3 g4 g5' g6 hlen
            · exact (rrep_6 f a b h er ek w hM ha hx hE hme hn g0 g1 g2 g3 g4 g5' g6).mono fun q w' hp => no (fun k => by
                have k1 := (hrk.1 k).1
                rcases hor with q1 | ⟨q1, q2⟩
                · exact k1 (hE.symm.trans q1)
                · have := congrArg Ep.r (g5.trans (hE.symm.trans q1))
                  simp only at this
                  omega) hp
          · exact (rrep_5 f a b h er ek w hM ha hx hE hme hn g0 g1 g2 g3 g4 (by rw [f5]; simpa using g5)).mono fun q w' hp => no (fun k => g5 (hrk.1 k).2.1) hp
        · exact (rrep_4 f a b h er ek w hM ha hx hE hme hn g0 g1 g2 g3 g4).mono fun q w' hp => no (fun k => g4 (hrk.1 k).2.2.2.2) hp
      · exact (rrep_3 f a b h er ek w hM ha hx hE hme hn g0 g1 g2 g3).mono fun q w' hp => no (fun k => g3 (hrk.1 k).2.2.2.1) hp
    · exact (rrep_2 f a b h er ek w hM ha hx hE hme hn g0 g1 g2).mono fun q w' hp => no (fun k => g2 (hrk.1 k).2.2.1.2.1) hp
  · exact (rrep_1 f a b h er ek w hM ha hx hE hme hn g0 g1).mono fun q w' hp => no (fun k => g1 (hrk.1 k).2.2.1.1) hp
end Go.Proofs.Ytjojhhkbebddmaa
