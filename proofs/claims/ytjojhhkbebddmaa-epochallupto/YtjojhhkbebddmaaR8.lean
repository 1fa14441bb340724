import Derived.Test.YtjojhhkbebddmaaR7
namespace Go.Proofs.Ytjojhhkbebddmaa
open Go.RowKit Go.PlainAid
set_option linter.unusedVariables false
set_option linter.unusedSimpArgs false
theorem lit_row (w : World) (l : List Ac) (c : Array Value) (hc : c = (flatA l).toArray) (hl : l.length ≤ 1000) (n : Nat) (hn : n = l.length) : (w.alloc (.cells c 117)).ownsRow w.heap.size 117 6 (.slice (some ⟨w.heap.size, 0, none⟩) n n) l.length (flatA l) := by
  subst hn hc
  refine ⟨by rw [flatA_len], Or.inr ⟨w.heap.size, l.length, (flatA l).toArray, rfl, Nat.le_refl _, heap_alloc_new w _, Nat.le_refl _, by unfold maxLen; omega, by simp [flatA_len], ?_⟩⟩
  rw [List.take_of_length_le (by simp [flatA_len])]
def turnR (x : EV) (r : RV) : RV := if liveE x x.me ≠ e0 ∧ tgtE x x.n ≠ liveE x x.me then { r with ov := r.ov ++ [liveE x x.me] } else r
structure TR (p q5 q6 : Nat) (br bk er ek tr tk : Int) (W : World) : Prop where
  b3 : Blk W p #[.int .i64 br, .int .i64 bk] 49
  b5 : Blk W q5 #[.int .i64 er, .int .i64 ek] 49
  b6 : Blk W q6 #[.int .i64 tr, .int .i64 tk] 49
theorem TR.cells {p q5 q6 : Nat} {br bk er ek tr tk : Int} {W : World} (h : TR p q5 q6 br bk er ek tr tk W) :
    (W.cell? ⟨p, 0, none⟩ = some (.int .i64 br) ∧ W.cell? ⟨p, 1, none⟩ = some (.int .i64 bk)) ∧ (W.cell? ⟨q5, 0, none⟩ = some (.int .i64 er) ∧ W.cell? ⟨q5, 1, none⟩ = some (.int .i64 ek)) ∧ (W.cell? ⟨q6, 0, none⟩ = some (.int .i64 tr) ∧ W.cell? ⟨q6, 1, none⟩ = some (.int .i64 tk)) :=
  ⟨⟨h.b3.cell 0, h.b3.cell 1⟩, ⟨h.b5.cell 0, h.b5.cell 1⟩, h.b6.cell 0, h.b6.cell 1⟩
theorem TR.keep {p q5 q6 : Nat} {br bk er ek tr tk : Int} {W W' : World} {S : Nat → Prop} (h : TR p q5 q6 br bk er ek tr tk W) (hc : Chg S W W') (h1 : ¬ S p) (h2 : ¬ S q5) (h3 : ¬ S q6) : TR p q5 q6 br bk er ek tr tk W' := ⟨hc.blk h.b3 h1, hc.blk h.b5 h2, hc.blk h.b6 h3⟩
set_option maxRecDepth 100000 in
set_option maxHeartbeats 6400000 in
theorem rturn_1 {L : Nat} {g : RG} {x : EV} {r : RV} (br bk er ek tr tk : Int) (w : World) (h : RM L g r w) (ha : Agr x r) (hx : x.Nm) (hlen : r.ov.length ≤ 1000000000) (hE : liveE x x.me = ⟨er, ek⟩) (hT : tgtE x x.n = ⟨tr, tk⟩) (d1 : 0 < er) (d2 : sameE tr tk er ek = false) : Calls Try.prog 72 #[.pointer (some ⟨g.rb, 0, none⟩), .agg #[.int .i64 br, .int .i64 bk]] w fun e w' => ∃ v, e = .returned v ∧ w'.ownsRow w.heap.size 117 6 v ([⟨3, -1, ⟨er, ek⟩, ⟨tr, tk⟩⟩, ⟨5, x.me, ⟨er, ek⟩, e0⟩, ⟨2, tk, ⟨tr, tk⟩, e0⟩] : List Ac).length (flatA [⟨3, -1, ⟨er, ek⟩, ⟨tr, tk⟩⟩, ⟨5, x.me, ⟨er, ek⟩, e0⟩, ⟨2, tk, ⟨tr, tk⟩, e0⟩]) ∧ ∃ g', RM L g' { r with ov := r.ov ++ [⟨er, ek⟩] } w' ∧ RStp g g' w w' := by
  have HM : Hid _ := h
  have HA : Hid _ := ha
  have hrb : g.rb < w.heap.size := h.b.lt
  have HO : Hid (∀ W, Below w.heap.size w W → Calls Try.prog 46 #[.pointer (some ⟨g.rb, 0, none⟩)] W fun e w' => e = .returned (epV ⟨er, ek⟩) ∧ Below W.heap.size W w') := fun W hW => by rw [← hE]; exact rown_any W (h.more hW) ha hx
  have HT : Hid (∀ W, Below w.heap.size w W → Calls Try.prog 70 #[.pointer (some ⟨g.rb, 0, none⟩)] W fun e w' => e = .returned (epV ⟨tr, tk⟩) ∧ Below W.heap.size W w') := fun W hW => by rw [← hT]; exact rtarget_any W (h.more hW) ha hx
  have HN1 := neq49 tr tk er ek
  have HN2 := neq49 tr tk br bk
  have HLEN : Hid _ := hlen
  have HLT : Hid (∀ k, rown g k → k < w.heap.size) := show ∀ k, rown g k → k < w.heap.size from fun k hk => (h.lt hk).2
  clear h ha hx hE hT hlen
  unfold epV at *
  go_enter Try.func72, Try.ntmps72
  go_upto_region 3 with (first
    | (go_at_call 46; refine Calls.mono (HO.out _ ((Below.refl _ _).alloc (Nat.le_refl _) _)) ?_; rintro e w1 ⟨rfl, hb1⟩)
    | (go_at_call 70; refine Calls.mono (HT.out _ (bal (bgo ((Below.refl _ _).alloc (Nat.le_refl _) _) hb1 (Nat.le_refl _)) (Nat.le_refl _) _)) ?_; rintro e w2 ⟨rfl, hb2⟩)
    | fail)
  have hbW : Below w.heap.size w (w2.alloc (.cells #[.int .i64 tr, .int .i64 tk] 49)) := bal (bgo (bal (bgo ((Below.refl _ _).alloc (Nat.le_refl _) _) hb1 (Nat.le_refl _)) (Nat.le_refl _) _) hb2 (Nat.le_refl _)) (Nat.le_refl _) _
  have hz1 : w.heap.size < w1.heap.size := by have h1 := hb1.size; rw [World.size_alloc] at h1; omega
  have hz2 : w1.heap.size < w2.heap.size := by have h1 := hb2.size; rw [World.size_alloc] at h1; omega
  have ht : TR w.heap.size w1.heap.size w2.heap.size br bk er ek tr tk (w2.alloc (.cells #[.int .i64 tr, .int .i64 tk] 49)) := by
    have h0 : Blk (w.alloc (.cells #[.int .i64 br, .int .i64 bk] 49)) w.heap.size #[.int .i64 br, .int .i64 bk] 49 := heap_alloc_new w _
    have h1 : Blk (w1.alloc (.cells #[.int .i64 er, .int .i64 ek] 49)) w1.heap.size #[.int .i64 er, .int .i64 ek] 49 := heap_alloc_new w1 _
    exact ⟨(((h0.up hb1).allc _).up hb2).allc _, (h1.up hb2).allc _, heap_alloc_new w2 _⟩
  generalize w2.alloc (.cells #[.int .i64 tr, .int .i64 tk] 49) = W at *
  obtain ⟨q5, hq5⟩ : ∃ q, q = w1.heap.size := ⟨_, rfl⟩
  obtain ⟨q6, hq6⟩ : ∃ q, q = w2.heap.size := ⟨_, rfl⟩
  rw [← hq5, ← hq6] at ht
  rw [← hq5] at hz1 hz2
  rw [← hq6] at hz2
  try rw [← hq5]
  try rw [← hq6]
  have HTR : Hid _ := ht
  have HM : Hid _ := HM.out.more hbW
  have hc0 : W.cell? ⟨g.rb, 0, none⟩ = some (.int .i64 (x.me : Int)) := by rw [← HA.out.me]; exact HM.out.c0
  obtain ⟨⟨p0, p1⟩, ⟨p2, p3⟩, p4, p5⟩ := ht.cells
  have HBW : Hid _ := hbW
  clear ht hbW hb1 hb2 hq5 hq6 HO HT
  have HQN : Hid (¬ rown g q5) := show ¬ rown g q5 from fun hk => by have := HLT.out _ hk; omega
  have HBX : Hid (Blk W q5 #[.int .i64 er, .int .i64 ek] 49) := HTR.out.b5
  clear p0 p1 hc0
  go_upto_region 4 with fail
  rename_i K hK
  try rw [show ∀ a : Act, a.put none undef = a from fun _ => rfl]
  have hDR : Below W.heap.size W ({ W with drawn := W.drawn + 1 } : World) := (Below.refl _ _).drew
  have HMD : Hid (RM L g r ({ W with drawn := W.drawn + 1 } : World)) := show RM L g r _ from HM.out.more hDR
  obtain ⟨v8, w8, hr8, hB8, hC8, hR8, hS8⟩ := HMD.out.addO ⟨er, ek⟩ HLEN.out
  obtain ⟨ao8, n8, c8, hv8⟩ : ∃ ao n c, v8 = Value.slice ao n c := by obtain ⟨ao, c, h, _⟩ := own_slice hR8.o; exact ⟨_, _, _, h⟩
  subst hv8
  have HR8 : Hid _ := hR8
  have HS8 : Hid _ := hS8
  clear hR8 hS8
  have HC0 : (fun wz : World => wz.cell? ⟨g.rb, 3, none⟩ = some g.vo ∧ Blk wz q5 #[.int .i64 er, .int .i64 ek] 49) ({ W with drawn := W.drawn + 1 } : World) := ⟨HMD.out.c3, HBX.out⟩
  have hqn : g.vo.ownBlock ≠ some (q5) := fun e => HQN.out (.inr (.inr (.inl e)))
  have HCA : (fun wz : World => wz.cell? ⟨g.rb, 3, none⟩ = some g.vo ∧ Blk wz q5 #[.int .i64 er, .int .i64 ek] 49) (World.alloc ({ W with drawn := W.drawn + 1 } : World) (.cells #[.int .i64 er, .int .i64 ek] 49)) := ⟨(Below.cell (Below.alloc (Below.refl _ _) (Nat.le_refl _) _) (World.block_lt_of_cell? _ _ HC0.1)).trans HC0.1, Blk.allc HC0.2 _⟩
  have HC9 : (fun wz : World => wz.cell? ⟨g.rb, 3, none⟩ = some g.vo ∧ Blk wz q5 #[.int .i64 er, .int .i64 ek] 49) w8 := ⟨(hB8.cell 3).trans rfl, hC8.blk HC0.2 hqn⟩
  refine wp_region_mix (fun wz : World => wz.cell? ⟨g.rb, 3, none⟩ = some g.vo ∧ Blk wz q5 #[.int .i64 er, .int .i64 ek] 49) (fun i => i == 6 || i == 7 || i == 10) 10 (by kernel_rfl) rfl (by kernel_rfl) (by kernel_rfl) (by kernel_rfl) ?_
  refine withFrP (N := 78) rfl ?_
  intro f0 F0 hff
  have ee0 : f0 0 = Value.pointer (some ⟨g.rb, 0, none⟩) := hff 0
  have ee1 : f0 5 = Value.pointer (some ⟨q5, 0, none⟩) := hff 5
  clear hff
  refine lyp F0 rfl HC0 rfl (by omega) (wanted_none rfl) (v := Value.pointer (some ⟨g.rb, 0, none⟩)) (fun wr hwr => by simp only [execOp, (F0.eval 0 (by omega)).trans (show _ = Value.pointer (some ⟨g.rb, 0, none⟩) from by simp [upd, ee0, ee1])]; first | rfl | simp [go_sem]) fun F1 => ?_
  refine lyp F1 rfl HC0 rfl (by omega) (wanted_none rfl) (v := Value.pointer (some ⟨g.rb, 0, none⟩)) (fun wr hwr => by simp only [execOp, (F1.eval 0 (by omega)).trans (show _ = Value.pointer (some ⟨g.rb, 0, none⟩) from by simp [upd, ee0, ee1])]; first | rfl | simp [go_sem]) fun F2 => ?_
  refine lyp F2 rfl HC0 rfl (by omega) (wanted_none rfl) (v := Value.pointer (some ⟨g.rb, 0, none⟩)) (fun wr hwr => by simp only [execOp, (F2.eval 21 (by omega)).trans (show _ = Value.pointer (some ⟨g.rb, 0, none⟩) from by simp [upd, ee0, ee1])]; simp [go_sem]) fun F3 => ?_
  refine lyp F3 rfl HC0 rfl (by omega) (wanted_none rfl) (v := Value.pointer (some ⟨g.rb, 3, none⟩)) (fun wr hwr => by simp only [execOp, (F3.eval 22 (by omega)).trans (show _ = Value.pointer (some ⟨g.rb, 0, none⟩) from by simp [upd, ee0, ee1])]; simp [go_sem]) fun F4 => ?_
  refine lyp F4 rfl HC0 rfl (by omega) (wanted_none rfl) (v := g.vo) (fun wr hwr => by simp only [execOp, (F4.eval 23 (by omega)).trans (show _ = Value.pointer (some ⟨g.rb, 3, none⟩) from by simp [upd, ee0, ee1])]; simp [go_sem, hwr.1]) fun F5 => ?_
  refine lyp F5 rfl HC0 rfl (by omega) (wanted_none rfl) (v := Value.agg #[Value.int .i64 er, Value.int .i64 ek]) (fun wr hwr => by simp only [execOp, (F5.eval 5 (by omega)).trans (show _ = Value.pointer (some ⟨q5, 0, none⟩) from by simp [upd, ee0, ee1])]; have h0 := hwr.2.cell 0; have h1 := hwr.2.cell 1; simp [go_sem, h0, h1]) fun F6 => ?_
  refine lep F6 rfl HC0 rfl (by omega) (wanted_none rfl) (v := Value.slice (some ⟨({ W with drawn := W.drawn + 1 } : World).heap.size, 0, none⟩) 1 1) (w1 := (World.alloc ({ W with drawn := W.drawn + 1 } : World) (.cells #[.int .i64 er, .int .i64 ek] 49))) (by simp only [execOp, List.map_toArray, List.map_cons, List.map_nil, (F6.eval 25 (by omega)).trans (show _ = Value.agg #[Value.int .i64 er, Value.int .i64 ek] from by simp [upd, ee0, ee1])]; simp [go_sem]) fun F7 => ?_
  refine lep F7 rfl HCA rfl (by omega) (wanted_none rfl) (v := Value.slice ao8 n8 c8) (w1 := w8) (by simp only [execOp, resolve, invoke, builtin, List.map_toArray, List.map_cons, List.map_nil, (F7.eval 24 (by omega)).trans (show _ = g.vo from by simp [upd, ee0, ee1]), (F7.eval 26 (by omega)).trans (show _ = Value.slice (some ⟨({ W with drawn := W.drawn + 1 } : World).heap.size, 0, none⟩) 1 1 from by simp [upd, ee0, ee1])]; simp only [Sem.run_bind, Sem.run_pure, Result.andThen_ok, hr8]; try rfl) fun F8 => ?_
  refine lyp F8 rfl HC9 rfl (by omega) (wanted_none rfl) (v := Value.pointer (some ⟨g.rb, 0, none⟩)) (fun wr hwr => by simp only [execOp, (F8.eval 20 (by omega)).trans (show _ = Value.pointer (some ⟨g.rb, 0, none⟩) from by simp [upd, ee0, ee1])]; simp [go_sem]) fun F9 => ?_
  refine lyp F9 rfl HC9 rfl (by omega) (wanted_none rfl) (v := Value.pointer (some ⟨g.rb, 3, none⟩)) (fun wr hwr => by simp only [execOp, (F9.eval 28 (by omega)).trans (show _ = Value.pointer (some ⟨g.rb, 0, none⟩) from by simp [upd, ee0, ee1])]; simp [go_sem]) fun F10 => ?_
  refine lst rfl HC9 rfl (wanted_none rfl) (w1 := w8.setCell ⟨g.rb, 3, none⟩ (Value.slice ao8 n8 c8)) (by simp only [execOp, (F10.eval 29 (by omega)).trans (show _ = Value.pointer (some ⟨g.rb, 3, none⟩) from by simp [upd, ee0, ee1]), (F10.eval 27 (by omega)).trans (show _ = Value.slice ao8 n8 c8 from by simp [upd, ee0, ee1])]; simp [go_sem, hB8.frozen 3, show w8.cell? ⟨g.rb, 3, none⟩ = some g.vo from HC9.1]) ?_
  refine ⟨fun h => by omega, ?_⟩
  refine hK _ _ ?_
  clear F0 F1 F2 F3 F4 F5 F6 F7 F8 F9 F10 ee0 ee1 HC0 HCA HC9 hr8 hB8 hqn hC8 HMD
  simp only [Act.put, List.setIfInBounds_toArray, List.set_cons_succ, List.set_cons_zero]
  have hS8 : RStp g { g with vo := Value.slice ao8 n8 c8 } W (w8.setCell ⟨g.rb, 3, none⟩ (Value.slice ao8 n8 c8)) := (RStp.refl hDR).trans HS8.out
  have hR8 := HR8.out
  generalize hW9 : w8.setCell ⟨g.rb, 3, none⟩ (Value.slice ao8 n8 c8) = W9 at *
  have ht9 := HTR.out.keep hS8.2.1 (fun e => by have := HLT.out _ e; omega) (fun e => by have := HLT.out _ e; omega) (fun e => by have := HLT.out _ e; omega)
  have HR9 : Hid _ := hR8
  have HS9 : Hid (RStp g { g with vo := Value.slice ao8 n8 c8 } w W9) := (RStp.refl (g := g) HBW.out).trans hS8
  have HSZ : Hid (w.heap.size ≤ W9.heap.size) := show _ from HS9.out.2.1.size
  have hc0 : W9.cell? ⟨g.rb, 0, none⟩ = some (.int .i64 (x.me : Int)) := by rw [← HA.out.me]; exact hR8.c0
  obtain ⟨⟨p0, p1⟩, ⟨p2, p3⟩, p4, p5⟩ := ht9.cells
  clear hW9 ht9 hR8 hS8 HR8 HS8 hDR
  go_upto_region 5 with fail
  go_region
  all_goals
    go_wp2_with fail
    go_ret
    have hr := lit_row W9 [⟨3, -1, ⟨er, ek⟩, ⟨tr, tk⟩⟩, ⟨5, x.me, ⟨er, ek⟩, e0⟩, ⟨2, tk, ⟨tr, tk⟩, e0⟩] _ rfl (by simp) 3 rfl
    have hbz : Below W9.heap.size W9 (W9.alloc (.cells (flatA [⟨3, -1, ⟨er, ek⟩, ⟨tr, tk⟩⟩, ⟨5, x.me, ⟨er, ek⟩, e0⟩, ⟨2, tk, ⟨tr, tk⟩, e0⟩]).toArray 117)).drew := ((Below.refl _ _).alloc (Nat.le_refl _) _).drew
    exact ⟨_, rfl, ownsRow_mono (w := (W9.alloc (.cells (flatA [⟨3, -1, ⟨er, ek⟩, ⟨tr, tk⟩⟩, ⟨5, x.me, ⟨er, ek⟩, e0⟩, ⟨2, tk, ⟨tr, tk⟩, e0⟩]).toArray 117)).drew) hr HSZ.out, _, HR9.out.more hbz, HS9.out.trans (RStp.refl hbz)⟩
set_option maxRecDepth 100000 in
set_option maxHeartbeats 6400000 in
theorem rturn_2 {L : Nat} {g : RG} {x : EV} {r : RV} (br bk er ek tr tk : Int) (w : World) (h : RM L g r w) (ha : Agr x r) (hx : x.Nm) (hlen : r.ov.length ≤ 1000000000) (hE : liveE x x.me = ⟨er, ek⟩) (hT : tgtE x x.n = ⟨tr, tk⟩) (d1 : 0 < er) (d2 : sameE tr tk er ek = true) (d3 : 0 < tr) : Calls Try.prog 72 #[.pointer (some ⟨g.rb, 0, none⟩), .agg #[.int .i64 br, .int .i64 bk]] w fun e w' => ∃ v, e = .returned v ∧ w'.ownsRow w.heap.size 117 6 v ([] : List Ac).length (flatA []) ∧ ∃ g', RM L g' r w' ∧ RStp g g' w w' := by
  have HM : Hid _ := h
  have HA : Hid _ := ha
  have hrb : g.rb < w.heap.size := h.b.lt
  have HO : Hid (∀ W, Below w.heap.size w W → Calls Try.prog 46 #[.pointer (some ⟨g.rb, 0, none⟩)] W fun e w' => e = .returned (epV ⟨er, ek⟩) ∧ Below W.heap.size W w') := fun W hW => by rw [← hE]; exact rown_any W (h.more hW) ha hx
  have HT : Hid (∀ W, Below w.heap.size w W → Calls Try.prog 70 #[.pointer (some ⟨g.rb, 0, none⟩)] W fun e w' => e = .returned (epV ⟨tr, tk⟩) ∧ Below W.heap.size W w') := fun W hW => by rw [← hT]; exact rtarget_any W (h.more hW) ha hx
  have HN1 := neq49 tr tk er ek
  have HN2 := neq49 tr tk br bk
  have HLEN : Hid _ := hlen
  have HLT : Hid (∀ k, rown g k → k < w.heap.size) := show ∀ k, rown g k → k < w.heap.size from fun k hk => (h.lt hk).2
  clear h ha hx hE hT hlen
  unfold epV at *
  go_enter Try.func72, Try.ntmps72
  go_upto_region 3 with (first
    | (go_at_call 46; refine Calls.mono (HO.out _ ((Below.refl _ _).alloc (Nat.le_refl _) _)) ?_; rintro e w1 ⟨rfl, hb1⟩)
    | (go_at_call 70; refine Calls.mono (HT.out _ (bal (bgo ((Below.refl _ _).alloc (Nat.le_refl _) _) hb1 (Nat.le_refl _)) (Nat.le_refl _) _)) ?_; rintro e w2 ⟨rfl, hb2⟩)
    | fail)
  have hbW : Below w.heap.size w (w2.alloc (.cells #[.int .i64 tr, .int .i64 tk] 49)) := bal (bgo (bal (bgo ((Below.refl _ _).alloc (Nat.le_refl _) _) hb1 (Nat.le_refl _)) (Nat.le_refl _) _) hb2 (Nat.le_refl _)) (Nat.le_refl _) _
  have hz1 : w.heap.size < w1.heap.size := by have h1 := hb1.size; rw [World.size_alloc] at h1; omega
  have hz2 : w1.heap.size < w2.heap.size := by have h1 := hb2.size; rw [World.size_alloc] at h1; omega
  have ht : TR w.heap.size w1.heap.size w2.heap.size br bk er ek tr tk (w2.alloc (.cells #[.int .i64 tr, .int .i64 tk] 49)) := by
    have h0 : Blk (w.alloc (.cells #[.int .i64 br, .int .i64 bk] 49)) w.heap.size #[.int .i64 br, .int .i64 bk] 49 := heap_alloc_new w _
    have h1 : Blk (w1.alloc (.cells #[.int .i64 er, .int .i64 ek] 49)) w1.heap.size #[.int .i64 er, .int .i64 ek] 49 := heap_alloc_new w1 _
    exact ⟨(((h0.up hb1).allc _).up hb2).allc _, (h1.up hb2).allc _, heap_alloc_new w2 _⟩
  generalize w2.alloc (.cells #[.int .i64 tr, .int .i64 tk] 49) = W at *
  obtain ⟨q5, hq5⟩ : ∃ q, q = w1.heap.size := ⟨_, rfl⟩
  obtain ⟨q6, hq6⟩ : ∃ q, q = w2.heap.size := ⟨_, rfl⟩
  rw [← hq5, ← hq6] at ht
  rw [← hq5] at hz1 hz2
  rw [← hq6] at hz2
  try rw [← hq5]
  try rw [← hq6]
  have HTR : Hid _ := ht
  have HM : Hid _ := HM.out.more hbW
  have hc0 : W.cell? ⟨g.rb, 0, none⟩ = some (.int .i64 (x.me : Int)) := by rw [← HA.out.me]; exact HM.out.c0
  obtain ⟨⟨p0, p1⟩, ⟨p2, p3⟩, p4, p5⟩ := ht.cells
  have HBW : Hid _ := hbW
  clear ht hbW hb1 hb2 hq5 hq6 HO HT
  go_wp2_with fail
  go_ret
  exact ⟨_, rfl, World.ownsRow_nil _ _ _ _, g, HM.out, RStp.refl HBW.out⟩
set_option maxRecDepth 100000 in
set_option maxHeartbeats 6400000 in
theorem rturn_3 {L : Nat} {g : RG} {x : EV} {r : RV} (br bk er ek tr tk : Int) (w : World) (h : RM L g r w) (ha : Agr x r) (hx : x.Nm) (hlen : r.ov.length ≤ 1000000000) (hE : liveE x x.me = ⟨er, ek⟩) (hT : tgtE x x.n = ⟨tr, tk⟩) (d1 : ¬ 0 < er) (d2 : sameE tr tk er ek = false) (d3 : 0 < tr) (d4 : sameE tr tk br bk = true) : Calls Try.prog 72 #[.pointer (some ⟨g.rb, 0, none⟩), .agg #[.int .i64 br, .int .i64 bk]] w fun e w' => ∃ v, e = .returned v ∧ w'.ownsRow w.heap.size 117 6 v ([] : List Ac).length (flatA []) ∧ ∃ g', RM L g' r w' ∧ RStp g g' w w' := by
  have HM : Hid _ := h
  have HA : Hid _ := ha
  have hrb : g.rb < w.heap.size := h.b.lt
  have HO : Hid (∀ W, Below w.heap.size w W → Calls Try.prog 46 #[.pointer (some ⟨g.rb, 0, none⟩)] W fun e w' => e = .returned (epV ⟨er, ek⟩) ∧ Below W.heap.size W w') := fun W hW => by rw [← hE]; exact rown_any W (h.more hW) ha hx
  have HT : Hid (∀ W, Below w.heap.size w W → Calls Try.prog 70 #[.pointer (some ⟨g.rb, 0, none⟩)] W fun e w' => e = .returned (epV ⟨tr, tk⟩) ∧ Below W.heap.size W w') := fun W hW => by rw [← hT]; exact rtarget_any W (h.more hW) ha hx
  have HN1 := neq49 tr tk er ek
  have HN2 := neq49 tr tk br bk
  have HLEN : Hid _ := hlen
  have HLT : Hid (∀ k, rown g k → k < w.heap.size) := show ∀ k, rown g k → k < w.heap.size from fun k hk => (h.lt hk).2
  clear h ha hx hE hT hlen
  unfold epV at *
  go_enter Try.func72, Try.ntmps72
  go_upto_region 3 with (first
    | (go_at_call 46; refine Calls.mono (HO.out _ ((Below.refl _ _).alloc (Nat.le_refl _) _)) ?_; rintro e w1 ⟨rfl, hb1⟩)
    | (go_at_call 70; refine Calls.mono (HT.out _ (bal (bgo ((Below.refl _ _).alloc (Nat.le_refl _) _) hb1 (Nat.le_refl _)) (Nat.le_refl _) _)) ?_; rintro e w2 ⟨rfl, hb2⟩)
    | fail)
  have hbW : Below w.heap.size w (w2.alloc (.cells #[.int .i64 tr, .int .i64 tk] 49)) := bal (bgo (bal (bgo ((Below.refl _ _).alloc (Nat.le_refl _) _) hb1 (Nat.le_refl _)) (Nat.le_refl _) _) hb2 (Nat.le_refl _)) (Nat.le_refl _) _
  have hz1 : w.heap.size < w1.heap.size := by have h1 := hb1.size; rw [World.size_alloc] at h1; omega
  have hz2 : w1.heap.size < w2.heap.size := by have h1 := hb2.size; rw [World.size_alloc] at h1; omega
  have ht : TR w.heap.size w1.heap.size w2.heap.size br bk er ek tr tk (w2.alloc (.cells #[.int .i64 tr, .int .i64 tk] 49)) := by
    have h0 : Blk (w.alloc (.cells #[.int .i64 br, .int .i64 bk] 49)) w.heap.size #[.int .i64 br, .int .i64 bk] 49 := heap_alloc_new w _
    have h1 : Blk (w1.alloc (.cells #[.int .i64 er, .int .i64 ek] 49)) w1.heap.size #[.int .i64 er, .int .i64 ek] 49 := heap_alloc_new w1 _
    exact ⟨(((h0.up hb1).allc _).up hb2).allc _, (h1.up hb2).allc _, heap_alloc_new w2 _⟩
  generalize w2.alloc (.cells #[.int .i64 tr, .int .i64 tk] 49) = W at *
  obtain ⟨q5, hq5⟩ : ∃ q, q = w1.heap.size := ⟨_, rfl⟩
  obtain ⟨q6, hq6⟩ : ∃ q, q = w2.heap.size := ⟨_, rfl⟩
  rw [← hq5, ← hq6] at ht
  rw [← hq5] at hz1 hz2
  rw [← hq6] at hz2
  try rw [← hq5]
  try rw [← hq6]
  have HTR : Hid _ := ht
  have HM : Hid _ := HM.out.more hbW
  have hc0 : W.cell? ⟨g.rb, 0, none⟩ = some (.int .i64 (x.me : Int)) := by rw [← HA.out.me]; exact HM.out.c0
  obtain ⟨⟨p0, p1⟩, ⟨p2, p3⟩, p4, p5⟩ := ht.cells
  have HBW : Hid _ := hbW
  clear ht hbW hb1 hb2 hq5 hq6 HO HT
  go_wp2_with fail
  go_ret
  exact ⟨_, rfl, World.ownsRow_nil _ _ _ _, g, HM.out, RStp.refl HBW.out⟩
set_option maxRecDepth 100000 in
set_option maxHeartbeats 6400000 in
theorem rturn_4 {L : Nat} {g : RG} {x : EV} {r : RV} (br bk er ek tr tk : Int) (w : World) (h : RM L g r w) (ha : Agr x r) (hx : x.Nm) (hlen : r.ov.length ≤ 1000000000) (hE : liveE x x.me = ⟨er, ek⟩) (hT : tgtE x x.n = ⟨tr, tk⟩) (d1 : ¬ 0 < er) (d2 : sameE tr tk er ek = false) (d3 : 0 < tr) (d4 : sameE tr tk br bk = false) : Calls Try.prog 72 #[.pointer (some ⟨g.rb, 0, none⟩), .agg #[.int .i64 br, .int .i64 bk]] w fun e w' => ∃ v, e = .returned v ∧ w'.ownsRow w.heap.size 117 6 v ([⟨2, tk, ⟨tr, tk⟩, e0⟩] : List Ac).length (flatA [⟨2, tk, ⟨tr, tk⟩, e0⟩]) ∧ ∃ g', RM L g' r w' ∧ RStp g g' w w' := by
  have HM : Hid _ := h
  have HA : Hid _ := ha
  have hrb : g.rb < w.heap.size := h.b.lt
  have HO : Hid (∀ W, Below w.heap.size w W → Calls Try.prog 46 #[.pointer (some ⟨g.rb, 0, none⟩)] W fun e w' => e = .returned (epV ⟨er, ek⟩) ∧ Below W.heap.size W w') := fun W hW => by rw [← hE]; exact rown_any W (h.more hW) ha hx
  have HT : Hid (∀ W, Below w.heap.size w W → Calls Try.prog 70 #[.pointer (some ⟨g.rb, 0, none⟩)] W fun e w' => e = .returned (epV ⟨tr, tk⟩) ∧ Below W.heap.size W w') := fun W hW => by rw [← hT]; exact rtarget_any W (h.more hW) ha hx
  have HN1 := neq49 tr tk er ek
  have HN2 := neq49 tr tk br bk
  have HLEN : Hid _ := hlen
  have HLT : Hid (∀ k, rown g k → k < w.heap.size) := show ∀ k, rown g k → k < w.heap.size from fun k hk => (h.lt hk).2
  clear h ha hx hE hT hlen
  unfold epV at *
  go_enter Try.func72, Try.ntmps72
  go_upto_region 3 with (first
    | (go_at_call 46; refine Calls.mono (HO.out _ ((Below.refl _ _).alloc (Nat.le_refl _) _)) ?_; rintro e w1 ⟨rfl, hb1⟩)
    | (go_at_call 70; refine Calls.mono (HT.out _ (bal (bgo ((Below.refl _ _).alloc (Nat.le_refl _) _) hb1 (Nat.le_refl _)) (Nat.le_refl _) _)) ?_; rintro e w2 ⟨rfl, hb2⟩)
    | fail)
  have hbW : Below w.heap.size w (w2.alloc (.cells #[.int .i64 tr, .int .i64 tk] 49)) := bal (bgo (bal (bgo ((Below.refl _ _).alloc (Nat.le_refl _) _) hb1 (Nat.le_refl _)) (Nat.le_refl _) _) hb2 (Nat.le_refl _)) (Nat.le_refl _) _
  have hz1 : w.heap.size < w1.heap.size := by have h1 := hb1.size; rw [World.size_alloc] at h1; omega
  have hz2 : w1.heap.size < w2.heap.size := by have h1 := hb2.size; rw [World.size_alloc] at h1; omega
  have ht : TR w.heap.size w1.heap.size w2.heap.size br bk er ek tr tk (w2.alloc (.cells #[.int .i64 tr, .int .i64 tk] 49)) := by
    have h0 : Blk (w.alloc (.cells #[.int .i64 br, .int .i64 bk] 49)) w.heap.size #[.int .i64 br, .int .i64 bk] 49 := heap_alloc_new w _
    have h1 : Blk (w1.alloc (.cells #[.int .i64 er, .int .i64 ek] 49)) w1.heap.size #[.int .i64 er, .int .i64 ek] 49 := heap_alloc_new w1 _
    exact ⟨(((h0.up hb1).allc _).up hb2).allc _, (h1.up hb2).allc _, heap_alloc_new w2 _⟩
  generalize w2.alloc (.cells #[.int .i64 tr, .int .i64 tk] 49) = W at *
  obtain ⟨q5, hq5⟩ : ∃ q, q = w1.heap.size := ⟨_, rfl⟩
  obtain ⟨q6, hq6⟩ : ∃ q, q = w2.heap.size := ⟨_, rfl⟩
  rw [← hq5, ← hq6] at ht
  rw [← hq5] at hz1 hz2
  rw [← hq6] at hz2
  try rw [← hq5]
  try rw [← hq6]
  have HTR : Hid _ := ht
  have HM : Hid _ := HM.out.more hbW
  have hc0 : W.cell? ⟨g.rb, 0, none⟩ = some (.int .i64 (x.me : Int)) := by rw [← HA.out.me]; exact HM.out.c0
  obtain ⟨⟨p0, p1⟩, ⟨p2, p3⟩, p4, p5⟩ := ht.cells
  have HBW : Hid _ := hbW
  clear ht hbW hb1 hb2 hq5 hq6 HO HT
  go_wp2_with fail
  go_ret
  have hr := lit_row W [⟨2, tk, ⟨tr, tk⟩, e0⟩] _ rfl (by simp) 1 rfl
  have hbz : Below W.heap.size W (W.alloc (.cells (flatA [⟨2, tk, ⟨tr, tk⟩, e0⟩]).toArray 117)) := (Below.refl _ _).alloc (Nat.le_refl _) _
  exact ⟨_, rfl, ownsRow_mono hr HBW.out.size, g, HM.out.more hbz, RStp.refl (bgo HBW.out hbz (Nat.le_refl _))⟩
set_option maxRecDepth 100000 in
set_option maxHeartbeats 6400000 in
theorem rturn_5 {L : Nat} {g : RG} {x : EV} {r : RV} (br bk er ek tk : Int) (w : World) (h : RM L g r w) (ha : Agr x r) (hx : x.Nm) (hlen : r.ov.length ≤ 1000000000) (hE : liveE x x.me = ⟨er, ek⟩) (hT : tgtE x x.n = ⟨0, tk⟩) (d1 : ¬ 0 < er) (d5 : ¬ 0 < br) : Calls Try.prog 72 #[.pointer (some ⟨g.rb, 0, none⟩), .agg #[.int .i64 br, .int .i64 bk]] w fun e w' => ∃ v, e = .returned v ∧ w'.ownsRow w.heap.size 117 6 v ([] : List Ac).length (flatA []) ∧ ∃ g', RM L g' r w' ∧ RStp g g' w w' := by
  have HM : Hid _ := h
  have HA : Hid _ := ha
  have hrb : g.rb < w.heap.size := h.b.lt
  have HO : Hid (∀ W, Below w.heap.size w W → Calls Try.prog 46 #[.pointer (some ⟨g.rb, 0, none⟩)] W fun e w' => e = .returned (epV ⟨er, ek⟩) ∧ Below W.heap.size W w') := fun W hW => by rw [← hE]; exact rown_any W (h.more hW) ha hx
  have HT : Hid (∀ W, Below w.heap.size w W → Calls Try.prog 70 #[.pointer (some ⟨g.rb, 0, none⟩)] W fun e w' => e = .returned (epV ⟨0, tk⟩) ∧ Below W.heap.size W w') := fun W hW => by rw [← hT]; exact rtarget_any W (h.more hW) ha hx
  have HN1 := neq49 0 tk er ek
  have HN2 := neq49 0 tk br bk
  have HLEN : Hid _ := hlen
  have HLT : Hid (∀ k, rown g k → k < w.heap.size) := show ∀ k, rown g k → k < w.heap.size from fun k hk => (h.lt hk).2
  clear h ha hx hE hT hlen
  unfold epV at *
  go_enter Try.func72, Try.ntmps72
  go_upto_region 3 with (first
    | (go_at_call 46; refine Calls.mono (HO.out _ ((Below.refl _ _).alloc (Nat.le_refl _) _)) ?_; rintro e w1 ⟨rfl, hb1⟩)
    | (go_at_call 70; refine Calls.mono (HT.out _ (bal (bgo ((Below.refl _ _).alloc (Nat.le_refl _) _) hb1 (Nat.le_refl _)) (Nat.le_refl _) _)) ?_; rintro e w2 ⟨rfl, hb2⟩)
    | fail)
  have hbW : Below w.heap.size w (w2.alloc (.cells #[.int .i64 0, .int .i64 tk] 49)) := bal (bgo (bal (bgo ((Below.refl _ _).alloc (Nat.le_refl _) _) hb1 (Nat.le_refl _)) (Nat.le_refl _) _) hb2 (Nat.le_refl _)) (Nat.le_refl _) _
  have hz1 : w.heap.size < w1.heap.size := by have h1 := hb1.size; rw [World.size_alloc] at h1; omega
  have hz2 : w1.heap.size < w2.heap.size := by have h1 := hb2.size; rw [World.size_alloc] at h1; omega
  have ht : TR w.heap.size w1.heap.size w2.heap.size br bk er ek 0 tk (w2.alloc (.cells #[.int .i64 0, .int .i64 tk] 49)) := by
    have h0 : Blk (w.alloc (.cells #[.int .i64 br, .int .i64 bk] 49)) w.heap.size #[.int .i64 br, .int .i64 bk] 49 := heap_alloc_new w _
    have h1 : Blk (w1.alloc (.cells #[.int .i64 er, .int .i64 ek] 49)) w1.heap.size #[.int .i64 er, .int .i64 ek] 49 := heap_alloc_new w1 _
    exact ⟨(((h0.up hb1).allc _).up hb2).allc _, (h1.up hb2).allc _, heap_alloc_new w2 _⟩
  generalize w2.alloc (.cells #[.int .i64 0, .int .i64 tk] 49) = W at *
  obtain ⟨q5, hq5⟩ : ∃ q, q = w1.heap.size := ⟨_, rfl⟩
  obtain ⟨q6, hq6⟩ : ∃ q, q = w2.heap.size := ⟨_, rfl⟩
  rw [← hq5, ← hq6] at ht
  rw [← hq5] at hz1 hz2
  rw [← hq6] at hz2
  try rw [← hq5]
  try rw [← hq6]
  have HTR : Hid _ := ht
  have HM : Hid _ := HM.out.more hbW
  have hc0 : W.cell? ⟨g.rb, 0, none⟩ = some (.int .i64 (x.me : Int)) := by rw [← HA.out.me]; exact HM.out.c0
  obtain ⟨⟨p0, p1⟩, ⟨p2, p3⟩, p4, p5⟩ := ht.cells
  have HBW : Hid _ := hbW
  clear ht hbW hb1 hb2 hq5 hq6 HO HT
  go_wp2_with fail
  go_ret
  exact ⟨_, rfl, World.ownsRow_nil _ _ _ _, g, HM.out, RStp.refl HBW.out⟩
set_option maxRecDepth 100000 in
set_option maxHeartbeats 6400000 in
theorem rturn_6 {L : Nat} {g : RG} {x : EV} {r : RV} (br bk er ek tk : Int) (w : World) (h : RM L g r w) (ha : Agr x r) (hx : x.Nm) (hlen : r.ov.length ≤ 1000000000) (hE : liveE x x.me = ⟨er, ek⟩) (hT : tgtE x x.n = ⟨0, tk⟩) (d1 : ¬ 0 < er) (d5 : 0 < br) : Calls Try.prog 72 #[.pointer (some ⟨g.rb, 0, none⟩), .agg #[.int .i64 br, .int .i64 bk]] w fun e w' => ∃ v, e = .returned v ∧ w'.ownsRow w.heap.size 117 6 v ([⟨6, x.me, e0, e0⟩] : List Ac).length (flatA [⟨6, x.me, e0, e0⟩]) ∧ ∃ g', RM L g' r w' ∧ RStp g g' w w' := by
  have HM : Hid _ := h
  have HA : Hid _ := ha
  have hrb : g.rb < w.heap.size := h.b.lt
  have HO : Hid (∀ W, Below w.heap.size w W → Calls Try.prog 46 #[.pointer (some ⟨g.rb, 0, none⟩)] W fun e w' => e = .returned (epV ⟨er, ek⟩) ∧ Below W.heap.size W w') := fun W hW => by rw [← hE]; exact rown_any W (h.more hW) ha hx
  have HT : Hid (∀ W, Below w.heap.size w W → Calls Try.prog 70 #[.pointer (some ⟨g.rb, 0, none⟩)] W fun e w' => e = .returned (epV ⟨0, tk⟩) ∧ Below W.heap.size W w') := fun W hW => by rw [← hT]; exact rtarget_any W (h.more hW) ha hx
  have HN1 := neq49 0 tk er ek
  have HN2 := neq49 0 tk br bk
  have HLEN : Hid _ := hlen
  have HLT : Hid (∀ k, rown g k → k < w.heap.size) := show ∀ k, rown g k → k < w.heap.size from fun k hk => (h.lt hk).2
  clear h ha hx hE hT hlen
  unfold epV at *
  go_enter Try.func72, Try.ntmps72
  go_upto_region 3 with (first
    | (go_at_call 46; refine Calls.mono (HO.out _ ((Below.refl _ _).alloc (Nat.le_refl _) _)) ?_; rintro e w1 ⟨rfl, hb1⟩)
    | (go_at_call 70; refine Calls.mono (HT.out _ (bal (bgo ((Below.refl _ _).alloc (Nat.le_refl _) _) hb1 (Nat.le_refl _)) (Nat.le_refl _) _)) ?_; rintro e w2 ⟨rfl, hb2⟩)
    | fail)
  have hbW : Below w.heap.size w (w2.alloc (.cells #[.int .i64 0, .int .i64 tk] 49)) := bal (bgo (bal (bgo ((Below.refl _ _).alloc (Nat.le_refl _) _) hb1 (Nat.le_refl _)) (Nat.le_refl _) _) hb2 (Nat.le_refl _)) (Nat.le_refl _) _
  have hz1 : w.heap.size < w1.heap.size := by have h1 := hb1.size; rw [World.size_alloc] at h1; omega
  have hz2 : w1.heap.size < w2.heap.size := by have h1 := hb2.size; rw [World.size_alloc] at h1; omega
  have ht : TR w.heap.size w1.heap.size w2.heap.size br bk er ek 0 tk (w2.alloc (.cells #[.int .i64 0, .int .i64 tk] 49)) := by
    have h0 : Blk (w.alloc (.cells #[.int .i64 br, .int .i64 bk] 49)) w.heap.size #[.int .i64 br, .int .i64 bk] 49 := heap_alloc_new w _
    have h1 : Blk (w1.alloc (.cells #[.int .i64 er, .int .i64 ek] 49)) w1.heap.size #[.int .i64 er, .int .i64 ek] 49 := heap_alloc_new w1 _
    exact ⟨(((h0.up hb1).allc _).up hb2).allc _, (h1.up hb2).allc _, heap_alloc_new w2 _⟩
  generalize w2.alloc (.cells #[.int .i64 0, .int .i64 tk] 49) = W at *
  obtain ⟨q5, hq5⟩ : ∃ q, q = w1.heap.size := ⟨_, rfl⟩
  obtain ⟨q6, hq6⟩ : ∃ q, q = w2.heap.size := ⟨_, rfl⟩
  rw [← hq5, ← hq6] at ht
  rw [← hq5] at hz1 hz2
  rw [← hq6] at hz2
  try rw [← hq5]
  try rw [← hq6]
  have HTR : Hid _ := ht
  have HM : Hid _ := HM.out.more hbW
  have hc0 : W.cell? ⟨g.rb, 0, none⟩ = some (.int .i64 (x.me : Int)) := by rw [← HA.out.me]; exact HM.out.c0
  obtain ⟨⟨p0, p1⟩, ⟨p2, p3⟩, p4, p5⟩ := ht.cells
  have HBW : Hid _ := hbW
  clear ht hbW hb1 hb2 hq5 hq6 HO HT
  go_wp2_with fail
  go_ret
  have hr := lit_row W [⟨6, x.me, e0, e0⟩] _ rfl (by simp) 1 rfl
  have hbz : Below W.heap.size W (W.alloc (.cells (flatA [⟨6, x.me, e0, e0⟩]).toArray 117)) := (Below.refl _ _).alloc (Nat.le_refl _) _
  exact ⟨_, rfl, ownsRow_mono hr HBW.out.size, g, HM.out.more hbz, RStp.refl (bgo HBW.out hbz (Nat.le_refl _))⟩
theorem rturn_any {L : Nat} {g : RG} {x : EV} {r : RV} (b : Ep) (w : World) (h : RM L g r w) (ha : Agr x r) (hx : x.Nm) (hlen : r.ov.length ≤ 1000000000) (hb : b = e0 ∨ 0 < b.r) : Calls Try.prog 72 #[.pointer (some ⟨g.rb, 0, none⟩), epV b] w fun e w' => ∃ v, e = .returned v ∧ w'.ownsRow w.heap.size 117 6 v (turnA x b).length (flatA (turnA x b)) ∧ ∃ g', RM L g' (turnR x r) w' ∧ RStp g g' w w' := by
  obtain ⟨br, bk⟩ := b
  have hE0 : liveE x x.me = e0 ∨ 0 < (liveE x x.me).r := by
    rcases liveE_nn ha x.me with q | ⟨q, q2⟩
    · exact .inl q
    · rw [q]; exact .inr q2
  have hT0 : tgtE x x.n = e0 ∨ 0 < (tgtE x x.n).r := (tgtE_bd ha x.n).imp id (fun h => h.1)
  obtain ⟨er, ek, hE⟩ : ∃ er ek, liveE x x.me = ⟨er, ek⟩ := ⟨_, _, rfl⟩
  obtain ⟨tr, tk, hT⟩ : ∃ tr tk, tgtE x x.n = ⟨tr, tk⟩ := ⟨_, _, rfl⟩
  unfold turnA turnR
  rw [hE] at hE0 ⊢
  rw [hT] at hT0 ⊢
  simp only at hE0 hT0 hb
  have f2 : sameE tr tk er ek = decide ((⟨tr, tk⟩ : Ep) = ⟨er, ek⟩) := rfl
  have f4 : sameE tr tk br bk = decide ((⟨tr, tk⟩ : Ep) = ⟨br, bk⟩) := rfl
  have z0 : ∀ {a b : Int}, (⟨a, b⟩ : Ep) = e0 → a = 0 := fun h => congrArg Ep.r h
  have nz : ∀ {a b : Int}, 0 < a → ¬ (⟨a, b⟩ : Ep) = e0 := fun h q => by have := z0 q; omega
  by_cases h1 : 0 < er
  · by_cases h2 : (⟨tr, tk⟩ : Ep) = ⟨er, ek⟩
    · have h3 : 0 < tr := by have := congrArg Ep.r h2; simp only at this; omega
      rw [if_neg (fun h => h.2 h2), if_neg (fun h => h.2.1 h2), if_neg (fun h => nz h3 h.1), if_neg (fun h => h.2 h2)]
      exact rturn_2 br bk er ek tr tk w h ha hx hlen hE hT h1 (by rw [f2]; simpa using h2) h3
    · rw [if_pos ⟨nz h1, h2⟩, if_pos ⟨nz h1, h2⟩]
      exact rturn_1 br bk er ek tr tk w h ha hx hlen hE hT h1 (by rw [f2]; simpa using h2)
  · have e1 : (⟨er, ek⟩ : Ep) = e0 := hE0.resolve_right h1
    have e1' : ¬ ((⟨er, ek⟩ : Ep) ≠ e0 ∧ (⟨tr, tk⟩ : Ep) ≠ ⟨er, ek⟩) := fun h => h.1 e1
    simp only [if_neg e1']
    rcases hT0 with t0 | t0
    · have ht : tr = 0 := z0 t0
      rw [if_neg (fun h => h.1 t0)]
      by_cases h5 : 0 < br
      · rw [if_pos ⟨t0, nz h5⟩]
        subst ht
        exact rturn_6 br bk er ek tk w h ha hx hlen hE hT h1 h5
      · rw [if_neg (fun h => h.2 (hb.resolve_right h5))]
        subst ht
        exact rturn_5 br bk er ek tk w h ha hx hlen hE hT h1 h5
    · have h2 : ¬ (⟨tr, tk⟩ : Ep) = ⟨er, ek⟩ := fun q => nz t0 (q.trans e1)
      by_cases h4 : (⟨tr, tk⟩ : Ep) = ⟨br, bk⟩
      · rw [if_neg (fun h => h.2.2 h4), if_neg (fun h => nz t0 h.1)]
        exact rturn_3 br bk er ek tr tk w h ha hx hlen hE hT h1 (by rw [f2]; simpa using h2) t0 (by rw [f4]; simpa using h4)
      · rw [if_pos ⟨nz t0, h2, h4⟩]
        exact rturn_4 br bk er ek tr tk w h ha hx hlen hE hT h1 (by rw [f2]; simpa using h2) t0 (by rw [f4]; simpa using h4)
end Go.Proofs.Ytjojhhkbebddmaa
