import Derived.Test.YtnphkmdanicemaaGreatDoorZB
namespace Go.Proofs.YtnphkmdanicemaaGreatDoor
open Go.RowKit Go.PlainAid
set_option linter.unusedVariables false
set_option linter.unusedSimpArgs false
/-- A ledger of the law. -/
structure LOk (s : Led.LS) : Prop where
  ok : s.Ok
  c : s.c = 1000
  h : s.h = 0
theorem LOk.le {s : Led.LS} (h : LOk s) : 0 ≤ s.d ∧ 0 ≤ s.u ∧ s.d + s.u ≤ 1000 := by
  have h1 := h.ok.d0
  have h2 := h.ok.u0
  have h3 := h.ok.sum
  rw [h.c, h.h] at h3
  exact ⟨h1, h2, by omega⟩
theorem lk_bounds (a b : Int) (h1 : 0 ≤ a ∧ a ≤ 1000) (h2 : 0 ≤ b ∧ b ≤ 1000) : IntKind.i64.wrap (a - b) = a - b := by rw [IntKind.wrap_i64]; omega
structure GF (hh ww rr : Int) : Prop where
  z : 0 ≤ rr
  w : rr ≤ ww
  hf : 2 * rr ≤ hh + 1
  h : rr ≤ hh
  p : 0 < hh → 0 < ww → rr ≠ 0
theorem give_facts {hh ww : Int} (h0 : 0 ≤ hh) (w0 : 0 ≤ ww) : GF hh ww (giveI hh ww) := by
  unfold giveI
  split
  · exact ⟨by omega, by omega, by omega, by omega, fun a b => by omega⟩
  · exact ⟨by omega, by omega, by omega, by omega, fun a b => by omega⟩
set_option maxRecDepth 100000 in
set_option maxHeartbeats 12800000 in
theorem asks_yes {S : Led.Sens} {Ls L0 N ab cap i k : Nat} {ps : List Pl} {p q : Pl} {L' : GL} {d u : Int} (w : World) (h : All L0 N ab cap ps w) (hp : ps[i]? = some p) (hq : ps[k]? = some q) (hik : k ≠ i) (hsp : LOk p.s) (hsq : LOk q.s) (hsum : p.s.d + p.s.u + q.s.d + q.s.u ≤ 1000)
    (hl1 : 0 ≤ (lk K1 p.L).1 ∧ (lk K1 p.L).1 ≤ 1000) (hl2 : 0 ≤ (lk K1 p.L).2 ∧ (lk K1 p.L).2 ≤ 1000) (hd : d = byd (lk K1 p.L).1 p.s.d) (hu : u = byd (lk K1 p.L).2 p.s.u) (hdu : ¬ (d = 0 ∧ u = 0))
    (hT : tickR (i : Int) K1 p.L (knownL K1 p.V N) N d u = (((k : Int), d, u, true), L')) (hL0' : lk K1 L' = (0, 0)) (hN2 : 2 ≤ N) (hN8 : N ≤ 8) (hS : Led.Sen S Ls w) (hLs : Ls ≤ L0) (hLw : L0 ≤ w.heap.size) :
    Calls Tryz.prog 9 #[.slice (some ⟨ab, 0, none⟩) N cap, .int .i64 (i : Int)] w fun e w' => e = .returned (.tuple #[.bool true, .bool true]) ∧ All L0 N ab cap (((ps.set i { p with L := L' }).set k { q with s := q.s.onext (giveI q.s.d d) (giveI q.s.u u) }).set i { p with L := L', s := p.s.inext (giveI q.s.d d) (giveI q.s.u u) }) w' ∧ Chg (ownL ps) w w' := by
  have hkN : k < N := by rw [← h.len]; exact (List.getElem?_eq_some_iff.1 hq).1
  have hiN : i < N := by rw [← h.len]; exact (List.getElem?_eq_some_iff.1 hp).1
  have hp2 := hsp.le
  have hq2 := hsq.le
  have hd0 : 0 ≤ d ∧ d ≤ 1000 := by rw [hd]; unfold byd; omega
  have hu0 : 0 ≤ u ∧ u ≤ 1000 := by rw [hu]; unfold byd; omega
  obtain ⟨c0, c1, c2⟩ := h.cells hp
  have HG1 : Hid _ := give_facts hq2.1 hd0.1
  have HG2 : Hid _ := give_facts hq2.2.1 hu0.1
  obtain ⟨l1, hll1⟩ : ∃ l1, l1 = (lk K1 p.L).1 := ⟨_, rfl⟩
  obtain ⟨l2, hll2⟩ : ∃ l2, l2 = (lk K1 p.L).2 := ⟨_, rfl⟩
  obtain ⟨p1, hpp1⟩ : ∃ x, x = p.s.d := ⟨_, rfl⟩
  obtain ⟨p2, hpp2⟩ : ∃ x, x = p.s.u := ⟨_, rfl⟩
  obtain ⟨q1, hqq1⟩ : ∃ x, x = q.s.d := ⟨_, rfl⟩
  obtain ⟨q2, hqq2⟩ : ∃ x, x = q.s.u := ⟨_, rfl⟩
  have hw1 : IntKind.i64.wrap (l1 - p1) = l1 - p1 := lk_bounds _ _ (by rw [hll1]; exact hl1) (by omega)
  have hw2 : IntKind.i64.wrap (l2 - p2) = l2 - p2 := lk_bounds _ _ (by rw [hll2]; exact hl2) (by omega)
  have HD : Hid (max 0 (l1 - p1) = d ∧ max 0 (l2 - p2) = u) := ⟨by rw [hd, hll1, hpp1]; rfl, by rw [hu, hll2, hpp2]; rfl⟩
  have HLK : Hid (∀ W, Gs p.gb p.mb i N p.L W → Calls Tryz.prog 22 #[.pointer (some ⟨p.gb, 0, none⟩), .string ⟨#[107]⟩] W fun e w' => e = .returned (.agg #[.int .i64 l1, .int .i64 l2]) ∧ Below W.heap.size W w') := fun W hW => by rw [hll1, hll2]; exact lacks_any K1 W hW
  have HLK2 : Hid (∀ W, Gs p.gb p.mb i N L' W → Calls Tryz.prog 22 #[.pointer (some ⟨p.gb, 0, none⟩), .string ⟨#[107]⟩] W fun e w' => e = .returned (.agg #[.int .i64 0, .int .i64 0]) ∧ Below W.heap.size W w') := fun W hW => by
    have := lacks_any K1 W hW
    rw [hL0'] at this
    exact this
  have HTK : Hid (∀ W, Gs p.gb p.mb i N p.L W → Blk W p.lb p.s.cs 82 → Vw p.hb p.vb i N p.V W → Calls Tryz.prog 14 #[.pointer (some ⟨p.gb, 0, none⟩), .string ⟨#[107]⟩, .pointer (some ⟨p.lb, 0, none⟩), .pointer (some ⟨p.hb, 0, none⟩)] W fun e w' => e = .returned (.tuple #[.int .i64 (k : Int), .agg #[.int .i64 d, .int .i64 u], .bool true]) ∧ Gs p.gb p.mb i N L' w' ∧ Chg (fun b => b = p.mb) W w') := fun W a b c => by
    have := tick_any K1 W a b c (by rw [IntKind.wrap_i64]; omega) (by omega) (by rw [← hll1, ← hpp1]; exact hw1) (by rw [← hll2, ← hpp2]; exact hw2)
    rw [← hd, ← hu, hT] at this
    exact this
  obtain ⟨r1, hr1⟩ : ∃ x, x = giveI q1 d := ⟨_, rfl⟩
  obtain ⟨r2, hr2⟩ : ∃ x, x = giveI q2 u := ⟨_, rfl⟩
  rw [← hqq1, ← hr1] at HG1
  rw [← hqq2, ← hr2] at HG2
  rw [← hqq1, ← hqq2, ← hr1, ← hr2]
  have hoc : q.s.ocode r1 r2 = 0 := by
    unfold Led.LS.ocode
    have a := HG1.out
    have b := HG2.out
    rw [if_neg (by have := a.z; have := b.z; omega), if_neg (by have := a.h; have := b.h; omega)]
  have hon : (q.s.onext r1 r2).d = q1 - r1 ∧ (q.s.onext r1 r2).u = q2 - r2 := by unfold Led.LS.onext; rw [if_pos hoc, hqq1, hqq2]; exact ⟨rfl, rfl⟩
  have hic : p.s.icode r1 r2 = 0 := by
    unfold Led.LS.icode Led.LS.all
    have a := HG1.out
    have b := HG2.out
    rw [hsp.c, hsp.h]
    rw [if_neg (by have := a.z; have := b.z; omega), if_neg (by have := a.h; have := b.h; omega)]
  have HGV : Hid (∀ W, Blk W q.lb q.s.cs 82 → Led.Sen S Ls W → L0 ≤ q.lb → Calls Tryz.prog 23 #[.pointer (some ⟨q.gb, 0, none⟩), .pointer (some ⟨q.lb, 0, none⟩), .agg #[.int .i64 d, .int .i64 u]] W fun e w' => e = .returned (.agg #[.int .i64 r1, .int .i64 r2]) ∧ Blk w' q.lb (q.s.onext r1 r2).cs 82 ∧ Chg (fun b => b = q.lb) W w') := fun W a b c => by
    have := ggive_any (gb := q.gb) d u W a hsq.ok (by rw [IntKind.wrap_i64]; omega) (by rw [IntKind.wrap_i64]; omega) b (Nat.le_trans hLs c)
    rw [← hqq1, ← hqq2, ← hr1, ← hr2] at this
    exact this
  have HIN : Hid (∀ W, Blk W p.lb p.s.cs 82 → Led.Sen S Ls W → L0 ≤ p.lb → Calls Tryz.prog 19 #[.pointer (some ⟨p.lb, 0, none⟩), .agg #[.int .i64 r1, .int .i64 r2]] W fun e w' => e = .returned (.int .i64 0) ∧ Blk w' p.lb (p.s.inext r1 r2).cs 82 ∧ Chg (fun b => b = p.lb) W w') := fun W a b c => by
    have g1 := HG1.out
    have g2 := HG2.out
    have := Led.in_any W b a hsp.ok (Nat.le_trans hLs c) r1 r2 (by rw [IntKind.wrap_i64]; have := g1.z; have := g1.h; omega) (by rw [IntKind.wrap_i64]; have := g2.z; have := g2.h; omega)
    rw [hic] at this
    exact this.mono fun e w' hh => ⟨hh.1, hh.2.1, Stq_chg hh.2.2⟩
  have HRP : Hid (∀ W, Blk W p.lb p.s.cs 82 → Calls Tryz.prog 11 #[.pointer (some ⟨p.lb, 0, none⟩)] W fun r w' => r = .returned (.agg #[.int .i64 p1, .int .i64 p2]) ∧ Below W.heap.size W w') := fun W a => by rw [hpp1, hpp2]; exact Led.rights_any W a
  have HRQ : Hid (∀ W, Blk W q.lb q.s.cs 82 → Calls Tryz.prog 11 #[.pointer (some ⟨q.lb, 0, none⟩)] W fun r w' => r = .returned (.agg #[.int .i64 q1, .int .i64 q2]) ∧ Below W.heap.size W w') := fun W a => by rw [hqq1, hqq2]; exact Led.rights_any W a
  have HRL : Hid (∀ W, Blk W q.lb (q.s.onext r1 r2).cs 82 → Calls Tryz.prog 11 #[.pointer (some ⟨q.lb, 0, none⟩)] W fun r w' => r = .returned (.agg #[.int .i64 (q1 - r1), .int .i64 (q2 - r2)]) ∧ Below W.heap.size W w') := fun W a => by
    have := Led.rights_any W a
    rw [hon.1, hon.2] at this
    exact this
  have HNN : Hid (2 ≤ N ∧ N ≤ 8 ∧ i < N ∧ k < N ∧ k ≠ i ∧ q1 ≤ 1000 ∧ q2 ≤ 1000 ∧ 0 ≤ q1 ∧ 0 ≤ q2) := ⟨hN2, hN8, hiN, hkN, hik, by omega, by omega, by omega, by omega⟩
  have HDU : Hid (¬ (d = 0 ∧ u = 0) ∧ 0 ≤ d ∧ d ≤ 1000 ∧ 0 ≤ u ∧ u ≤ 1000) := ⟨hdu, hd0.1, hd0.2, hu0.1, hu0.2⟩
  have HP : Hid (ps[i]? = some p) := hp
  have HQ : Hid (ps[k]? = some q) := hq
  have HP4P : Hid ((ps.set i { p with L := L' })[i]? = some { p with L := L' }) := by
    have h9 : (ps.set i { p with L := L' })[i]? = some { p with L := L' } := by rw [List.getElem?_set, if_pos rfl, if_pos (by rw [h.len]; exact hiN)]
    exact h9
  have HQ4 : Hid ((ps.set i { p with L := L' })[k]? = some q) := by
    have h9 : (ps.set i { p with L := L' })[k]? = some q := by rw [List.getElem?_set, if_neg (fun e => hik e.symm)]; exact hq
    exact h9
  have HQ5 : Hid (((ps.set i { p with L := L' }).set k { q with s := q.s.onext r1 r2 })[k]? = some { q with s := q.s.onext r1 r2 }) := by
    have h9 : ((ps.set i { p with L := L' }).set k { q with s := q.s.onext r1 r2 })[k]? = some { q with s := q.s.onext r1 r2 } := by rw [List.getElem?_set, if_pos rfl, if_pos (by rw [List.length_set, h.len]; exact hkN)]
    exact h9
  have HP5 : Hid (((ps.set i { p with L := L' }).set k { q with s := q.s.onext r1 r2 })[i]? = some { p with L := L' }) := by
    have h9 : ((ps.set i { p with L := L' }).set k { q with s := q.s.onext r1 r2 })[i]? = some { p with L := L' } := by rw [List.getElem?_set, if_neg hik]; exact HP4P.out
    exact h9
  have HAW : Hid (All L0 N ab cap ps w) := h
  have HS : Hid (Led.Sen S Ls w ∧ Ls ≤ L0 ∧ L0 ≤ w.heap.size) := ⟨hS, hLs, hLw⟩
  have HA : Hid (AS L0 N ab cap ps ps [] w w) := AS.start h
  clear h hp hq hik hsp hsq hsum hl1 hl2 hd hu hdu hT hL0' hN2 hN8 hS hLs hLw hp2 hq2 hd0 hu0 hll1 hll2 hpp1 hpp2 hqq1 hqq2 hr1 hr2 hoc hon hic
  go_enter Tryz.func9, Tryz.ntmps9
  obtain ⟨X1, hX1⟩ : ∃ Z, Z = w.alloc (.cells #[.pointer (some ⟨p.gb, 0, none⟩), .pointer (some ⟨p.lb, 0, none⟩), .pointer (some ⟨p.hb, 0, none⟩)] 34) := ⟨_, rfl⟩
  obtain ⟨b6, hb6⟩ : ∃ b, b = w.heap.size := ⟨_, rfl⟩
  have HA1 : Hid (AS L0 N ab cap ps (ps) [(b6, #[.pointer (some ⟨p.gb, 0, none⟩), .pointer (some ⟨p.lb, 0, none⟩), .pointer (some ⟨p.hb, 0, none⟩)], 34)] w X1) := by
    have h9 := (HA.out).box #[.pointer (some ⟨p.gb, 0, none⟩), .pointer (some ⟨p.lb, 0, none⟩), .pointer (some ⟨p.hb, 0, none⟩)] 34 (.inl rfl)
    rw [← hX1, ← hb6] at h9
    exact h9
  go_upto_region 2 with fail
  rw [← hX1, ← hb6]
  clear hX1 hb6 c0 c1 c2 HA
  have e0 : X1.cell? ⟨b6, 0, none⟩ = some (.pointer (some ⟨p.gb, 0, none⟩)) := (HA1.out.bx (b6, #[.pointer (some ⟨p.gb, 0, none⟩), .pointer (some ⟨p.lb, 0, none⟩), .pointer (some ⟨p.hb, 0, none⟩)], 34) (.head _)).1.cell 0
  go_wp2_with fail
  refine Calls.mono (HLK.out X1 (HA1.out.all.pls.all i p HP.out).gs) ?_
  rintro e w2 ⟨rfl, hb2⟩
  obtain ⟨X2, hX2⟩ : ∃ Z, Z = w2.alloc (.cells #[.int .i64 l1, .int .i64 l2] 37) := ⟨_, rfl⟩
  obtain ⟨b7, hb7⟩ : ∃ b, b = w2.heap.size := ⟨_, rfl⟩
  have HA2 : Hid (AS L0 N ab cap ps (ps) [(b7, #[.int .i64 l1, .int .i64 l2], 37), (b6, #[.pointer (some ⟨p.gb, 0, none⟩), .pointer (some ⟨p.lb, 0, none⟩), .pointer (some ⟨p.hb, 0, none⟩)], 34)] w X2) := by
    have h9 := (HA1.out.more hb2).box #[.int .i64 l1, .int .i64 l2] 37 (.inr rfl)
    rw [← hX2, ← hb7] at h9
    exact h9
  go_upto_region 3 with fail
  rw [← hX2, ← hb7]
  clear hX2 hb7 e0 hb2 HA1 HLK
  have e0 : X2.cell? ⟨b6, 1, none⟩ = some (.pointer (some ⟨p.lb, 0, none⟩)) := (HA2.out.bx (b6, #[.pointer (some ⟨p.gb, 0, none⟩), .pointer (some ⟨p.lb, 0, none⟩), .pointer (some ⟨p.hb, 0, none⟩)], 34) (.tail _ (.head _))).1.cell 1
  go_wp2_with fail
  refine Calls.mono (HRP.out X2 (HA2.out.all.pls.all i p HP.out).ld) ?_
  rintro e w3 ⟨rfl, hb3⟩
  obtain ⟨X3, hX3⟩ : ∃ Z, Z = w3.alloc (.cells #[.int .i64 p1, .int .i64 p2] 37) := ⟨_, rfl⟩
  obtain ⟨b8, hb8⟩ : ∃ b, b = w3.heap.size := ⟨_, rfl⟩
  have HA3 : Hid (AS L0 N ab cap ps (ps) [(b8, #[.int .i64 p1, .int .i64 p2], 37), (b7, #[.int .i64 l1, .int .i64 l2], 37), (b6, #[.pointer (some ⟨p.gb, 0, none⟩), .pointer (some ⟨p.lb, 0, none⟩), .pointer (some ⟨p.hb, 0, none⟩)], 34)] w X3) := by
    have h9 := (HA2.out.more hb3).box #[.int .i64 p1, .int .i64 p2] 37 (.inr rfl)
    rw [← hX3, ← hb8] at h9
    exact h9
  go_upto_region 4 with fail
  rw [← hX3, ← hb8]
  clear hX3 hb8 e0 hb3 HA2
  have e0 : X3.cell? ⟨b6, 0, none⟩ = some (.pointer (some ⟨p.gb, 0, none⟩)) := (HA3.out.bx (b6, #[.pointer (some ⟨p.gb, 0, none⟩), .pointer (some ⟨p.lb, 0, none⟩), .pointer (some ⟨p.hb, 0, none⟩)], 34) (.tail _ (.tail _ (.head _)))).1.cell 0
  have e1 : X3.cell? ⟨b6, 1, none⟩ = some (.pointer (some ⟨p.lb, 0, none⟩)) := (HA3.out.bx (b6, #[.pointer (some ⟨p.gb, 0, none⟩), .pointer (some ⟨p.lb, 0, none⟩), .pointer (some ⟨p.hb, 0, none⟩)], 34) (.tail _ (.tail _ (.head _)))).1.cell 1
  have e2 : X3.cell? ⟨b6, 2, none⟩ = some (.pointer (some ⟨p.hb, 0, none⟩)) := (HA3.out.bx (b6, #[.pointer (some ⟨p.gb, 0, none⟩), .pointer (some ⟨p.lb, 0, none⟩), .pointer (some ⟨p.hb, 0, none⟩)], 34) (.tail _ (.tail _ (.head _)))).1.cell 2
  go_wp2_with fail
  refine Calls.mono (HTK.out X3 (HA3.out.all.pls.all i p HP.out).gs (HA3.out.all.pls.all i p HP.out).ld (HA3.out.all.pls.all i p HP.out).vw) ?_
  rintro e w4 ⟨rfl, hg4, hc4⟩
  have HA4a := HA3.out.setL HP.out hg4 hc4
  obtain ⟨X4, hX4⟩ : ∃ Z, Z = w4.alloc (.cells #[.int .i64 d, .int .i64 u] 37) := ⟨_, rfl⟩
  obtain ⟨b10, hb10⟩ : ∃ b, b = w4.heap.size := ⟨_, rfl⟩
  have HA4 : Hid (AS L0 N ab cap ps (ps.set i { p with L := L' }) [(b10, #[.int .i64 d, .int .i64 u], 37), (b8, #[.int .i64 p1, .int .i64 p2], 37), (b7, #[.int .i64 l1, .int .i64 l2], 37), (b6, #[.pointer (some ⟨p.gb, 0, none⟩), .pointer (some ⟨p.lb, 0, none⟩), .pointer (some ⟨p.hb, 0, none⟩)], 34)] w X4) := by
    have h9 := (HA4a).box #[.int .i64 d, .int .i64 u] 37 (.inr rfl)
    rw [← hX4, ← hb10] at h9
    exact h9
  go_upto_region 5 with fail
  rw [← hX4, ← hb10]
  clear hX4 hb10 e0 e1 e2 hg4 hc4 HA3 HA4a HTK
  have e0 : X4.cell? ⟨b7, 0, none⟩ = some (.int .i64 l1) := (HA4.out.bx (b7, #[.int .i64 l1, .int .i64 l2], 37) (.tail _ (.tail _ (.head _)))).1.cell 0
  have e1 : X4.cell? ⟨b7, 1, none⟩ = some (.int .i64 l2) := (HA4.out.bx (b7, #[.int .i64 l1, .int .i64 l2], 37) (.tail _ (.tail _ (.head _)))).1.cell 1
  have e2 : X4.cell? ⟨b8, 0, none⟩ = some (.int .i64 p1) := (HA4.out.bx (b8, #[.int .i64 p1, .int .i64 p2], 37) (.tail _ (.head _))).1.cell 0
  have e3 : X4.cell? ⟨b8, 1, none⟩ = some (.int .i64 p2) := (HA4.out.bx (b8, #[.int .i64 p1, .int .i64 p2], 37) (.tail _ (.head _))).1.cell 1
  go_upto_region 7 with fail
  rw [HD.out.1, HD.out.2]
  have g0 : X4.cell? ⟨b10, 0, none⟩ = some (.int .i64 d) := (HA4.out.bx (b10, #[.int .i64 d, .int .i64 u], 37) (.head _)).1.cell 0
  have g1 : X4.cell? ⟨b10, 1, none⟩ = some (.int .i64 u) := (HA4.out.bx (b10, #[.int .i64 d, .int .i64 u], 37) (.head _)).1.cell 1
  have g2 : X4.cell? ⟨b6, 0, none⟩ = some (.pointer (some ⟨p.gb, 0, none⟩)) := (HA4.out.bx (b6, #[.pointer (some ⟨p.gb, 0, none⟩), .pointer (some ⟨p.lb, 0, none⟩), .pointer (some ⟨p.hb, 0, none⟩)], 34) (.tail _ (.tail _ (.tail _ (.head _))))).1.cell 0
  have k0 : ¬ (k : Int) < 0 := by omega
  have k1 : ¬ (N : Int) ≤ (k : Int) := by omega
  have k2 : ¬ (k : Int) = (i : Int) := by have := HNN.out.2.2.2.2.1; omega
  clear e0 e1 e2 e3 hw1 hw2
  have hdu' : ¬ (d = 0 ∧ u = 0) := HDU.out.1
  by_cases hz : d = 0
  · have hun : ¬ u = 0 := fun e => hdu' ⟨hz, e⟩
    have hub : (u == 0) = false := beq_eq_false_iff_ne.2 hun
    clear hdu'
    subst hz
    go_wp2_with fail
    refine Calls.mono (HLK2.out X4 (HA4.out.all.pls.all i _ HP4P.out).gs) ?_
    rintro e w5 ⟨rfl, hb5⟩
    have HA5 : Hid (AS L0 N ab cap ps (ps.set i { p with L := L' }) [(b10, #[.int .i64 0, .int .i64 u], 37), (b8, #[.int .i64 p1, .int .i64 p2], 37), (b7, #[.int .i64 l1, .int .i64 l2], 37), (b6, #[.pointer (some ⟨p.gb, 0, none⟩), .pointer (some ⟨p.lb, 0, none⟩), .pointer (some ⟨p.hb, 0, none⟩)], 34)] w w5) := HA4.out.more hb5
    clear hb5 HA4 HLK2 g0 g1 g2
    go_wp2_with fail
    refine Calls.mono (Led.same_any 0 0 0 0 w5) ?_
    rintro e w6 ⟨rfl, hb6⟩
    have HA6 : Hid (AS L0 N ab cap ps (ps.set i { p with L := L' }) [(b10, #[.int .i64 0, .int .i64 u], 37), (b8, #[.int .i64 p1, .int .i64 p2], 37), (b7, #[.int .i64 l1, .int .i64 l2], 37), (b6, #[.pointer (some ⟨p.gb, 0, none⟩), .pointer (some ⟨p.lb, 0, none⟩), .pointer (some ⟨p.hb, 0, none⟩)], 34)] w w6) := HA5.out.more hb6
    clear hb6 HA5
    obtain ⟨c0, c1, c2⟩ := HA6.out.all.cells HQ4.out
    obtain ⟨X6, hX6⟩ : ∃ Z, Z = w6.alloc (.cells #[.pointer (some ⟨q.gb, 0, none⟩), .pointer (some ⟨q.lb, 0, none⟩), .pointer (some ⟨q.hb, 0, none⟩)] 34) := ⟨_, rfl⟩
    obtain ⟨b14, hb14⟩ : ∃ b, b = w6.heap.size := ⟨_, rfl⟩
    have HA7 : Hid (AS L0 N ab cap ps (ps.set i { p with L := L' }) [(b14, #[.pointer (some ⟨q.gb, 0, none⟩), .pointer (some ⟨q.lb, 0, none⟩), .pointer (some ⟨q.hb, 0, none⟩)], 34), (b10, #[.int .i64 0, .int .i64 u], 37), (b8, #[.int .i64 p1, .int .i64 p2], 37), (b7, #[.int .i64 l1, .int .i64 l2], 37), (b6, #[.pointer (some ⟨p.gb, 0, none⟩), .pointer (some ⟨p.lb, 0, none⟩), .pointer (some ⟨p.hb, 0, none⟩)], 34)] w X6) := by
      have h9 := (HA6.out).box #[.pointer (some ⟨q.gb, 0, none⟩), .pointer (some ⟨q.lb, 0, none⟩), .pointer (some ⟨q.hb, 0, none⟩)] 34 (.inl rfl)
      rw [← hX6, ← hb14] at h9
      exact h9
    go_upto_region 12 with fail
    rw [← hX6, ← hb14]
    clear hX6 hb14 HA6 c0 c1 c2 k0 k1 k2
    have e0 : X6.cell? ⟨b14, 1, none⟩ = some (.pointer (some ⟨q.lb, 0, none⟩)) := (HA7.out.bx (b14, #[.pointer (some ⟨q.gb, 0, none⟩), .pointer (some ⟨q.lb, 0, none⟩), .pointer (some ⟨q.hb, 0, none⟩)], 34) (.head _)).1.cell 1
    go_wp2_with fail
    refine Calls.mono (HRQ.out X6 (HA7.out.all.pls.all k q HQ4.out).ld) ?_
    rintro e w7 ⟨rfl, hb7⟩
    obtain ⟨X7, hX7⟩ : ∃ Z, Z = w7.alloc (.cells #[.int .i64 q1, .int .i64 q2] 37) := ⟨_, rfl⟩
    obtain ⟨b15, hb15⟩ : ∃ b, b = w7.heap.size := ⟨_, rfl⟩
    have HA8 : Hid (AS L0 N ab cap ps (ps.set i { p with L := L' }) [(b15, #[.int .i64 q1, .int .i64 q2], 37), (b14, #[.pointer (some ⟨q.gb, 0, none⟩), .pointer (some ⟨q.lb, 0, none⟩), .pointer (some ⟨q.hb, 0, none⟩)], 34), (b10, #[.int .i64 0, .int .i64 u], 37), (b8, #[.int .i64 p1, .int .i64 p2], 37), (b7, #[.int .i64 l1, .int .i64 l2], 37), (b6, #[.pointer (some ⟨p.gb, 0, none⟩), .pointer (some ⟨p.lb, 0, none⟩), .pointer (some ⟨p.hb, 0, none⟩)], 34)] w X7) := by
      have h9 := (HA7.out.more hb7).box #[.int .i64 q1, .int .i64 q2] 37 (.inr rfl)
      rw [← hX7, ← hb15] at h9
      exact h9
    go_upto_region 13 with fail
    rw [← hX7, ← hb15]
    clear hX7 hb15 e0 hb7 HA7
    have e0 : X7.cell? ⟨b14, 0, none⟩ = some (.pointer (some ⟨q.gb, 0, none⟩)) := (HA8.out.bx (b14, #[.pointer (some ⟨q.gb, 0, none⟩), .pointer (some ⟨q.lb, 0, none⟩), .pointer (some ⟨q.hb, 0, none⟩)], 34) (.tail _ (.head _))).1.cell 0
    have e1 : X7.cell? ⟨b14, 1, none⟩ = some (.pointer (some ⟨q.lb, 0, none⟩)) := (HA8.out.bx (b14, #[.pointer (some ⟨q.gb, 0, none⟩), .pointer (some ⟨q.lb, 0, none⟩), .pointer (some ⟨q.hb, 0, none⟩)], 34) (.tail _ (.head _))).1.cell 1
    have e2 : X7.cell? ⟨b10, 0, none⟩ = some (.int .i64 0) := (HA8.out.bx (b10, #[.int .i64 0, .int .i64 u], 37) (.tail _ (.tail _ (.head _)))).1.cell 0
    have e3 : X7.cell? ⟨b10, 1, none⟩ = some (.int .i64 u) := (HA8.out.bx (b10, #[.int .i64 0, .int .i64 u], 37) (.tail _ (.tail _ (.head _)))).1.cell 1
    go_wp2_with fail
    refine Calls.mono (HGV.out X7 (HA8.out.all.pls.all k q HQ4.out).ld (HS.out.1.below ((HAW.out.below HA8.out.chg).mono HS.out.2.1)) ((HA8.out.all.pls.all k q HQ4.out).lo _ (.inr (.inr (.inl rfl))))) ?_
    rintro e w8 ⟨rfl, hl8, hc8⟩
    have HA8a := HA8.out.setS HQ4.out hl8 hc8
    obtain ⟨X8, hX8⟩ : ∃ Z, Z = w8.alloc (.cells #[.int .i64 r1, .int .i64 r2] 37) := ⟨_, rfl⟩
    obtain ⟨b16, hb16⟩ : ∃ b, b = w8.heap.size := ⟨_, rfl⟩
    have HA9 : Hid (AS L0 N ab cap ps ((ps.set i { p with L := L' }).set k { q with s := q.s.onext r1 r2 }) [(b16, #[.int .i64 r1, .int .i64 r2], 37), (b15, #[.int .i64 q1, .int .i64 q2], 37), (b14, #[.pointer (some ⟨q.gb, 0, none⟩), .pointer (some ⟨q.lb, 0, none⟩), .pointer (some ⟨q.hb, 0, none⟩)], 34), (b10, #[.int .i64 0, .int .i64 u], 37), (b8, #[.int .i64 p1, .int .i64 p2], 37), (b7, #[.int .i64 l1, .int .i64 l2], 37), (b6, #[.pointer (some ⟨p.gb, 0, none⟩), .pointer (some ⟨p.lb, 0, none⟩), .pointer (some ⟨p.hb, 0, none⟩)], 34)] w X8) := by
      have h9 := (HA8a).box #[.int .i64 r1, .int .i64 r2] 37 (.inr rfl)
      rw [← hX8, ← hb16] at h9
      exact h9
    go_upto_region 14 with fail
    rw [← hX8, ← hb16]
    clear hX8 hb16 e0 e1 e2 e3 hl8 hc8 HA8 HA8a HGV
    have e0 : X8.cell? ⟨b14, 1, none⟩ = some (.pointer (some ⟨q.lb, 0, none⟩)) := (HA9.out.bx (b14, #[.pointer (some ⟨q.gb, 0, none⟩), .pointer (some ⟨q.lb, 0, none⟩), .pointer (some ⟨q.hb, 0, none⟩)], 34) (.tail _ (.tail _ (.head _)))).1.cell 1
    go_wp2_with fail
    refine Calls.mono (HRL.out X8 (HA9.out.all.pls.all k _ HQ5.out).ld) ?_
    rintro e w9 ⟨rfl, hb9⟩
    obtain ⟨X9, hX9⟩ : ∃ Z, Z = w9.alloc (.cells #[.int .i64 (q1 - r1), .int .i64 (q2 - r2)] 37) := ⟨_, rfl⟩
    obtain ⟨b17, hb17⟩ : ∃ b, b = w9.heap.size := ⟨_, rfl⟩
    have HA10 : Hid (AS L0 N ab cap ps ((ps.set i { p with L := L' }).set k { q with s := q.s.onext r1 r2 }) [(b17, #[.int .i64 (q1 - r1), .int .i64 (q2 - r2)], 37), (b16, #[.int .i64 r1, .int .i64 r2], 37), (b15, #[.int .i64 q1, .int .i64 q2], 37), (b14, #[.pointer (some ⟨q.gb, 0, none⟩), .pointer (some ⟨q.lb, 0, none⟩), .pointer (some ⟨q.hb, 0, none⟩)], 34), (b10, #[.int .i64 0, .int .i64 u], 37), (b8, #[.int .i64 p1, .int .i64 p2], 37), (b7, #[.int .i64 l1, .int .i64 l2], 37), (b6, #[.pointer (some ⟨p.gb, 0, none⟩), .pointer (some ⟨p.lb, 0, none⟩), .pointer (some ⟨p.hb, 0, none⟩)], 34)] w X9) := by
      have h9 := (HA9.out.more hb9).box #[.int .i64 (q1 - r1), .int .i64 (q2 - r2)] 37 (.inr rfl)
      rw [← hX9, ← hb17] at h9
      exact h9
    go_upto_region 15 with fail
    rw [← hX9, ← hb17]
    clear hX9 hb17 e0 hb9 HA9
    have m150 : X9.cell? ⟨b15, 0, none⟩ = some (.int .i64 q1) := (HA10.out.bx (b15, #[.int .i64 q1, .int .i64 q2], 37) (.tail _ (.tail _ (.head _)))).1.cell 0
    have m151 : X9.cell? ⟨b15, 1, none⟩ = some (.int .i64 q2) := (HA10.out.bx (b15, #[.int .i64 q1, .int .i64 q2], 37) (.tail _ (.tail _ (.head _)))).1.cell 1
    have m160 : X9.cell? ⟨b16, 0, none⟩ = some (.int .i64 r1) := (HA10.out.bx (b16, #[.int .i64 r1, .int .i64 r2], 37) (.tail _ (.head _))).1.cell 0
    have m161 : X9.cell? ⟨b16, 1, none⟩ = some (.int .i64 r2) := (HA10.out.bx (b16, #[.int .i64 r1, .int .i64 r2], 37) (.tail _ (.head _))).1.cell 1
    have m170 : X9.cell? ⟨b17, 0, none⟩ = some (.int .i64 (q1 - r1)) := (HA10.out.bx (b17, #[.int .i64 (q1 - r1), .int .i64 (q2 - r2)], 37) (.head _)).1.cell 0
    have m171 : X9.cell? ⟨b17, 1, none⟩ = some (.int .i64 (q2 - r2)) := (HA10.out.bx (b17, #[.int .i64 (q1 - r1), .int .i64 (q2 - r2)], 37) (.head _)).1.cell 1
    have e1 : X9.cell? ⟨b6, 1, none⟩ = some (.pointer (some ⟨p.lb, 0, none⟩)) := (HA10.out.bx (b6, #[.pointer (some ⟨p.gb, 0, none⟩), .pointer (some ⟨p.lb, 0, none⟩), .pointer (some ⟨p.hb, 0, none⟩)], 34) (.tail _ (.tail _ (.tail _ (.tail _ (.tail _ (.tail _ (.tail _ (.head _))))))))).1.cell 1
    obtain ⟨t1, t2, t3, t4, t5⟩ := HG1.out
    obtain ⟨s1, s2, s3, s4, s5⟩ := HG2.out
    have n1 : ¬ r1 < 0 := by omega
    have n2 : ¬ r2 < 0 := by omega
    have n3 : ¬ 0 < r1 := by omega
    have n4 : ¬ u < r2 := by omega
    have v1 : IntKind.i64.wrap (2 * r1) = 2 * r1 := by rw [IntKind.wrap_i64]; have := HNN.out; omega
    have v2 : IntKind.i64.wrap (2 * r2) = 2 * r2 := by rw [IntKind.wrap_i64]; have := HNN.out; omega
    have v3 : IntKind.i64.wrap (q1 + 1) = q1 + 1 := by rw [IntKind.wrap_i64]; have := HNN.out; omega
    have v4 : IntKind.i64.wrap (q2 + 1) = q2 + 1 := by rw [IntKind.wrap_i64]; have := HNN.out; omega
    have v5 : IntKind.i64.wrap (q1 - r1) = q1 - r1 := by rw [IntKind.wrap_i64]; have := HNN.out; omega
    have v6 : IntKind.i64.wrap (q2 - r2) = q2 - r2 := by rw [IntKind.wrap_i64]; have := HNN.out; omega
    have n5 : ¬ q1 + 1 < 2 * r1 := by omega
    have n6 : ¬ q2 + 1 < 2 * r2 := by omega
    have HF : Hid (∀ w', Blk w' p.lb (p.s.inext r1 r2).cs 82 → Chg (fun b => b = p.lb) X9 w' → All L0 N ab cap (((ps.set i { p with L := L' }).set k { q with s := q.s.onext r1 r2 }).set i { p with L := L', s := p.s.inext r1 r2 }) w' ∧ Chg (ownL ps) w w') := fun w' a b => by
      have h9 := HA10.out.setS HP5.out a b
      exact ⟨h9.all, h9.chg⟩
    have HCALL : Hid _ := HIN.out X9 (HA10.out.all.pls.all i _ HP5.out).ld (HS.out.1.below ((HAW.out.below HA10.out.chg).mono HS.out.2.1)) ((HA10.out.all.pls.all i _ HP5.out).lo _ (.inr (.inr (.inl rfl))))
    clear t1 t2 t3 t4 s1 s2 s3 s4 HA10 HIN HS HAW
    have hcs1 : (¬ 0 < q1) ∨ (0 < q1) := by omega
    have hcs2 : (¬ 0 < q2) ∨ (0 < q2 ∧ ¬ 0 < u) ∨ (0 < q2 ∧ 0 < u ∧ ¬ r2 = 0 ∧ (r2 == 0) = false) := by
      by_cases a : 0 < q2
      · by_cases b : 0 < u
        · exact .inr (.inr ⟨a, b, s5 a b, beq_eq_false_iff_ne.2 (s5 a b)⟩)
        · exact .inr (.inl ⟨a, b⟩)
      · exact .inl a
    clear t5 s5
    go_upto_region 17 with fail
    clear n1 n2 n3 n4 n5 n6 v1 v2 v3 v4 v5 v6 m170 m171
    rcases hcs1 with a1 | a1 <;> rcases hcs2 with b1 | ⟨b1, b2⟩ | ⟨b1, b2, b3, b4⟩
    all_goals (go_wp2_with fail; refine Calls.mono HCALL.out ?_; rintro e w10 ⟨rfl, hl10, hc10⟩; have HZ : Hid _ := HF.out w10 hl10 hc10; clear hl10 hc10 HF HCALL; go_wp2; go_ret2; exact ⟨rfl, HZ.out⟩)
  · clear hdu'
    go_wp2_with fail
    refine Calls.mono (HLK2.out X4 (HA4.out.all.pls.all i _ HP4P.out).gs) ?_
    rintro e w5 ⟨rfl, hb5⟩
    have HA5 : Hid (AS L0 N ab cap ps (ps.set i { p with L := L' }) [(b10, #[.int .i64 d, .int .i64 u], 37), (b8, #[.int .i64 p1, .int .i64 p2], 37), (b7, #[.int .i64 l1, .int .i64 l2], 37), (b6, #[.pointer (some ⟨p.gb, 0, none⟩), .pointer (some ⟨p.lb, 0, none⟩), .pointer (some ⟨p.hb, 0, none⟩)], 34)] w w5) := HA4.out.more hb5
    clear hb5 HA4 HLK2 g0 g1 g2
    go_wp2_with fail
    refine Calls.mono (Led.same_any 0 0 0 0 w5) ?_
    rintro e w6 ⟨rfl, hb6⟩
    have HA6 : Hid (AS L0 N ab cap ps (ps.set i { p with L := L' }) [(b10, #[.int .i64 d, .int .i64 u], 37), (b8, #[.int .i64 p1, .int .i64 p2], 37), (b7, #[.int .i64 l1, .int .i64 l2], 37), (b6, #[.pointer (some ⟨p.gb, 0, none⟩), .pointer (some ⟨p.lb, 0, none⟩), .pointer (some ⟨p.hb, 0, none⟩)], 34)] w w6) := HA5.out.more hb6
    clear hb6 HA5
    obtain ⟨c0, c1, c2⟩ := HA6.out.all.cells HQ4.out
    obtain ⟨X6, hX6⟩ : ∃ Z, Z = w6.alloc (.cells #[.pointer (some ⟨q.gb, 0, none⟩), .pointer (some ⟨q.lb, 0, none⟩), .pointer (some ⟨q.hb, 0, none⟩)] 34) := ⟨_, rfl⟩
    obtain ⟨b14, hb14⟩ : ∃ b, b = w6.heap.size := ⟨_, rfl⟩
    have HA7 : Hid (AS L0 N ab cap ps (ps.set i { p with L := L' }) [(b14, #[.pointer (some ⟨q.gb, 0, none⟩), .pointer (some ⟨q.lb, 0, none⟩), .pointer (some ⟨q.hb, 0, none⟩)], 34), (b10, #[.int .i64 d, .int .i64 u], 37), (b8, #[.int .i64 p1, .int .i64 p2], 37), (b7, #[.int .i64 l1, .int .i64 l2], 37), (b6, #[.pointer (some ⟨p.gb, 0, none⟩), .pointer (some ⟨p.lb, 0, none⟩), .pointer (some ⟨p.hb, 0, none⟩)], 34)] w X6) := by
      have h9 := (HA6.out).box #[.pointer (some ⟨q.gb, 0, none⟩), .pointer (some ⟨q.lb, 0, none⟩), .pointer (some ⟨q.hb, 0, none⟩)] 34 (.inl rfl)
      rw [← hX6, ← hb14] at h9
      exact h9
    go_upto_region 12 with fail
    rw [← hX6, ← hb14]
    clear hX6 hb14 HA6 c0 c1 c2 k0 k1 k2
    have e0 : X6.cell? ⟨b14, 1, none⟩ = some (.pointer (some ⟨q.lb, 0, none⟩)) := (HA7.out.bx (b14, #[.pointer (some ⟨q.gb, 0, none⟩), .pointer (some ⟨q.lb, 0, none⟩), .pointer (some ⟨q.hb, 0, none⟩)], 34) (.head _)).1.cell 1
    go_wp2_with fail
    refine Calls.mono (HRQ.out X6 (HA7.out.all.pls.all k q HQ4.out).ld) ?_
    rintro e w7 ⟨rfl, hb7⟩
    obtain ⟨X7, hX7⟩ : ∃ Z, Z = w7.alloc (.cells #[.int .i64 q1, .int .i64 q2] 37) := ⟨_, rfl⟩
    obtain ⟨b15, hb15⟩ : ∃ b, b = w7.heap.size := ⟨_, rfl⟩
    have HA8 : Hid (AS L0 N ab cap ps (ps.set i { p with L := L' }) [(b15, #[.int .i64 q1, .int .i64 q2], 37), (b14, #[.pointer (some ⟨q.gb, 0, none⟩), .pointer (some ⟨q.lb, 0, none⟩), .pointer (some ⟨q.hb, 0, none⟩)], 34), (b10, #[.int .i64 d, .int .i64 u], 37), (b8, #[.int .i64 p1, .int .i64 p2], 37), (b7, #[.int .i64 l1, .int .i64 l2], 37), (b6, #[.pointer (some ⟨p.gb, 0, none⟩), .pointer (some ⟨p.lb, 0, none⟩), .pointer (some ⟨p.hb, 0, none⟩)], 34)] w X7) := by
      have h9 := (HA7.out.more hb7).box #[.int .i64 q1, .int .i64 q2] 37 (.inr rfl)
      rw [← hX7, ← hb15] at h9
      exact h9
    go_upto_region 13 with fail
    rw [← hX7, ← hb15]
    clear hX7 hb15 e0 hb7 HA7
    have e0 : X7.cell? ⟨b14, 0, none⟩ = some (.pointer (some ⟨q.gb, 0, none⟩)) := (HA8.out.bx (b14, #[.pointer (some ⟨q.gb, 0, none⟩), .pointer (some ⟨q.lb, 0, none⟩), .pointer (some ⟨q.hb, 0, none⟩)], 34) (.tail _ (.head _))).1.cell 0
    have e1 : X7.cell? ⟨b14, 1, none⟩ = some (.pointer (some ⟨q.lb, 0, none⟩)) := (HA8.out.bx (b14, #[.pointer (some ⟨q.gb, 0, none⟩), .pointer (some ⟨q.lb, 0, none⟩), .pointer (some ⟨q.hb, 0, none⟩)], 34) (.tail _ (.head _))).1.cell 1
    have e2 : X7.cell? ⟨b10, 0, none⟩ = some (.int .i64 d) := (HA8.out.bx (b10, #[.int .i64 d, .int .i64 u], 37) (.tail _ (.tail _ (.head _)))).1.cell 0
    have e3 : X7.cell? ⟨b10, 1, none⟩ = some (.int .i64 u) := (HA8.out.bx (b10, #[.int .i64 d, .int .i64 u], 37) (.tail _ (.tail _ (.head _)))).1.cell 1
    go_wp2_with fail
    refine Calls.mono (HGV.out X7 (HA8.out.all.pls.all k q HQ4.out).ld (HS.out.1.below ((HAW.out.below HA8.out.chg).mono HS.out.2.1)) ((HA8.out.all.pls.all k q HQ4.out).lo _ (.inr (.inr (.inl rfl))))) ?_
    rintro e w8 ⟨rfl, hl8, hc8⟩
    have HA8a := HA8.out.setS HQ4.out hl8 hc8
    obtain ⟨X8, hX8⟩ : ∃ Z, Z = w8.alloc (.cells #[.int .i64 r1, .int .i64 r2] 37) := ⟨_, rfl⟩
    obtain ⟨b16, hb16⟩ : ∃ b, b = w8.heap.size := ⟨_, rfl⟩
    have HA9 : Hid (AS L0 N ab cap ps ((ps.set i { p with L := L' }).set k { q with s := q.s.onext r1 r2 }) [(b16, #[.int .i64 r1, .int .i64 r2], 37), (b15, #[.int .i64 q1, .int .i64 q2], 37), (b14, #[.pointer (some ⟨q.gb, 0, none⟩), .pointer (some ⟨q.lb, 0, none⟩), .pointer (some ⟨q.hb, 0, none⟩)], 34), (b10, #[.int .i64 d, .int .i64 u], 37), (b8, #[.int .i64 p1, .int .i64 p2], 37), (b7, #[.int .i64 l1, .int .i64 l2], 37), (b6, #[.pointer (some ⟨p.gb, 0, none⟩), .pointer (some ⟨p.lb, 0, none⟩), .pointer (some ⟨p.hb, 0, none⟩)], 34)] w X8) := by
      have h9 := (HA8a).box #[.int .i64 r1, .int .i64 r2] 37 (.inr rfl)
      rw [← hX8, ← hb16] at h9
      exact h9
    go_upto_region 14 with fail
    rw [← hX8, ← hb16]
    clear hX8 hb16 e0 e1 e2 e3 hl8 hc8 HA8 HA8a HGV
    have e0 : X8.cell? ⟨b14, 1, none⟩ = some (.pointer (some ⟨q.lb, 0, none⟩)) := (HA9.out.bx (b14, #[.pointer (some ⟨q.gb, 0, none⟩), .pointer (some ⟨q.lb, 0, none⟩), .pointer (some ⟨q.hb, 0, none⟩)], 34) (.tail _ (.tail _ (.head _)))).1.cell 1
    go_wp2_with fail
    refine Calls.mono (HRL.out X8 (HA9.out.all.pls.all k _ HQ5.out).ld) ?_
    rintro e w9 ⟨rfl, hb9⟩
    obtain ⟨X9, hX9⟩ : ∃ Z, Z = w9.alloc (.cells #[.int .i64 (q1 - r1), .int .i64 (q2 - r2)] 37) := ⟨_, rfl⟩
    obtain ⟨b17, hb17⟩ : ∃ b, b = w9.heap.size := ⟨_, rfl⟩
    have HA10 : Hid (AS L0 N ab cap ps ((ps.set i { p with L := L' }).set k { q with s := q.s.onext r1 r2 }) [(b17, #[.int .i64 (q1 - r1), .int .i64 (q2 - r2)], 37), (b16, #[.int .i64 r1, .int .i64 r2], 37), (b15, #[.int .i64 q1, .int .i64 q2], 37), (b14, #[.pointer (some ⟨q.gb, 0, none⟩), .pointer (some ⟨q.lb, 0, none⟩), .pointer (some ⟨q.hb, 0, none⟩)], 34), (b10, #[.int .i64 d, .int .i64 u], 37), (b8, #[.int .i64 p1, .int .i64 p2], 37), (b7, #[.int .i64 l1, .int .i64 l2], 37), (b6, #[.pointer (some ⟨p.gb, 0, none⟩), .pointer (some ⟨p.lb, 0, none⟩), .pointer (some ⟨p.hb, 0, none⟩)], 34)] w X9) := by
      have h9 := (HA9.out.more hb9).box #[.int .i64 (q1 - r1), .int .i64 (q2 - r2)] 37 (.inr rfl)
      rw [← hX9, ← hb17] at h9
      exact h9
    go_upto_region 15 with fail
    rw [← hX9, ← hb17]
    clear hX9 hb17 e0 hb9 HA9
    have m150 : X9.cell? ⟨b15, 0, none⟩ = some (.int .i64 q1) := (HA10.out.bx (b15, #[.int .i64 q1, .int .i64 q2], 37) (.tail _ (.tail _ (.head _)))).1.cell 0
    have m151 : X9.cell? ⟨b15, 1, none⟩ = some (.int .i64 q2) := (HA10.out.bx (b15, #[.int .i64 q1, .int .i64 q2], 37) (.tail _ (.tail _ (.head _)))).1.cell 1
    have m160 : X9.cell? ⟨b16, 0, none⟩ = some (.int .i64 r1) := (HA10.out.bx (b16, #[.int .i64 r1, .int .i64 r2], 37) (.tail _ (.head _))).1.cell 0
    have m161 : X9.cell? ⟨b16, 1, none⟩ = some (.int .i64 r2) := (HA10.out.bx (b16, #[.int .i64 r1, .int .i64 r2], 37) (.tail _ (.head _))).1.cell 1
    have m170 : X9.cell? ⟨b17, 0, none⟩ = some (.int .i64 (q1 - r1)) := (HA10.out.bx (b17, #[.int .i64 (q1 - r1), .int .i64 (q2 - r2)], 37) (.head _)).1.cell 0
    have m171 : X9.cell? ⟨b17, 1, none⟩ = some (.int .i64 (q2 - r2)) := (HA10.out.bx (b17, #[.int .i64 (q1 - r1), .int .i64 (q2 - r2)], 37) (.head _)).1.cell 1
    have e1 : X9.cell? ⟨b6, 1, none⟩ = some (.pointer (some ⟨p.lb, 0, none⟩)) := (HA10.out.bx (b6, #[.pointer (some ⟨p.gb, 0, none⟩), .pointer (some ⟨p.lb, 0, none⟩), .pointer (some ⟨p.hb, 0, none⟩)], 34) (.tail _ (.tail _ (.tail _ (.tail _ (.tail _ (.tail _ (.tail _ (.head _))))))))).1.cell 1
    obtain ⟨t1, t2, t3, t4, t5⟩ := HG1.out
    obtain ⟨s1, s2, s3, s4, s5⟩ := HG2.out
    have n1 : ¬ r1 < 0 := by omega
    have n2 : ¬ r2 < 0 := by omega
    have n3 : ¬ d < r1 := by omega
    have n4 : ¬ u < r2 := by omega
    have v1 : IntKind.i64.wrap (2 * r1) = 2 * r1 := by rw [IntKind.wrap_i64]; have := HNN.out; omega
    have v2 : IntKind.i64.wrap (2 * r2) = 2 * r2 := by rw [IntKind.wrap_i64]; have := HNN.out; omega
    have v3 : IntKind.i64.wrap (q1 + 1) = q1 + 1 := by rw [IntKind.wrap_i64]; have := HNN.out; omega
    have v4 : IntKind.i64.wrap (q2 + 1) = q2 + 1 := by rw [IntKind.wrap_i64]; have := HNN.out; omega
    have v5 : IntKind.i64.wrap (q1 - r1) = q1 - r1 := by rw [IntKind.wrap_i64]; have := HNN.out; omega
    have v6 : IntKind.i64.wrap (q2 - r2) = q2 - r2 := by rw [IntKind.wrap_i64]; have := HNN.out; omega
    have n5 : ¬ q1 + 1 < 2 * r1 := by omega
    have n6 : ¬ q2 + 1 < 2 * r2 := by omega
    have HF : Hid (∀ w', Blk w' p.lb (p.s.inext r1 r2).cs 82 → Chg (fun b => b = p.lb) X9 w' → All L0 N ab cap (((ps.set i { p with L := L' }).set k { q with s := q.s.onext r1 r2 }).set i { p with L := L', s := p.s.inext r1 r2 }) w' ∧ Chg (ownL ps) w w') := fun w' a b => by
      have h9 := HA10.out.setS HP5.out a b
      exact ⟨h9.all, h9.chg⟩
    have HCALL : Hid _ := HIN.out X9 (HA10.out.all.pls.all i _ HP5.out).ld (HS.out.1.below ((HAW.out.below HA10.out.chg).mono HS.out.2.1)) ((HA10.out.all.pls.all i _ HP5.out).lo _ (.inr (.inr (.inl rfl))))
    clear t1 t2 t3 t4 s1 s2 s3 s4 HA10 HIN HS HAW
    have hcs1 : (¬ 0 < q1) ∨ (0 < q1 ∧ ¬ 0 < d) ∨ (0 < q1 ∧ 0 < d ∧ ¬ r1 = 0 ∧ (r1 == 0) = false) := by
      by_cases a : 0 < q1
      · by_cases b : 0 < d
        · exact .inr (.inr ⟨a, b, t5 a b, beq_eq_false_iff_ne.2 (t5 a b)⟩)
        · exact .inr (.inl ⟨a, b⟩)
      · exact .inl a
    have hcs2 : (¬ 0 < q2) ∨ (0 < q2 ∧ ¬ 0 < u) ∨ (0 < q2 ∧ 0 < u ∧ ¬ r2 = 0 ∧ (r2 == 0) = false) := by
      by_cases a : 0 < q2
      · by_cases b : 0 < u
        · exact .inr (.inr ⟨a, b, s5 a b, beq_eq_false_iff_ne.2 (s5 a b)⟩)
        · exact .inr (.inl ⟨a, b⟩)
      · exact .inl a
    clear t5 s5
    go_upto_region 17 with fail
    clear n1 n2 n3 n4 n5 n6 v1 v2 v3 v4 v5 v6 m170 m171
    rcases hcs1 with a1 | ⟨a1, a2⟩ | ⟨a1, a2, a3, a4⟩ <;> rcases hcs2 with b1 | ⟨b1, b2⟩ | ⟨b1, b2, b3, b4⟩
    all_goals (go_wp2_with fail; refine Calls.mono HCALL.out ?_; rintro e w10 ⟨rfl, hl10, hc10⟩; have HZ : Hid _ := HF.out w10 hl10 hc10; clear hl10 hc10 HF HCALL; go_wp2; go_ret2; exact ⟨rfl, HZ.out⟩)
end Go.Proofs.YtnphkmdanicemaaGreatDoor
namespace Go.Proofs.YtnphkmdanicemaaGreatDoor
open Go.RowKit Go.PlainAid
set_option linter.unusedVariables false
set_option linter.unusedSimpArgs false
set_option maxRecDepth 100000 in
set_option maxHeartbeats 12800000 in
theorem asks_no {L0 N ab cap i : Nat} {ps : List Pl} {p : Pl} {L' : GL} {d u : Int} (w : World) (h : All L0 N ab cap ps w) (hp : ps[i]? = some p) (hsp : LOk p.s)
    (hl1 : 0 ≤ (lk K1 p.L).1 ∧ (lk K1 p.L).1 ≤ 1000) (hl2 : 0 ≤ (lk K1 p.L).2 ∧ (lk K1 p.L).2 ≤ 1000) (hd : d = byd (lk K1 p.L).1 p.s.d) (hu : u = byd (lk K1 p.L).2 p.s.u)
    (hT : tickR (i : Int) K1 p.L (knownL K1 p.V N) N d u = ((0, 0, 0, false), L')) (hN2 : 2 ≤ N) (hN8 : N ≤ 8) :
    Calls Tryz.prog 9 #[.slice (some ⟨ab, 0, none⟩) N cap, .int .i64 (i : Int)] w fun e w' => e = .returned (.tuple #[.bool true, .bool false]) ∧ All L0 N ab cap (ps.set i { p with L := L' }) w' ∧ Chg (ownL ps) w w' := by
  have hiN : i < N := by rw [← h.len]; exact (List.getElem?_eq_some_iff.1 hp).1
  have hp2 := hsp.le
  obtain ⟨c0, c1, c2⟩ := h.cells hp
  obtain ⟨l1, hll1⟩ : ∃ l1, l1 = (lk K1 p.L).1 := ⟨_, rfl⟩
  obtain ⟨l2, hll2⟩ : ∃ l2, l2 = (lk K1 p.L).2 := ⟨_, rfl⟩
  obtain ⟨p1, hpp1⟩ : ∃ x, x = p.s.d := ⟨_, rfl⟩
  obtain ⟨p2, hpp2⟩ : ∃ x, x = p.s.u := ⟨_, rfl⟩
  have hw1 : IntKind.i64.wrap (l1 - p1) = l1 - p1 := lk_bounds _ _ (by rw [hll1]; exact hl1) (by omega)
  have hw2 : IntKind.i64.wrap (l2 - p2) = l2 - p2 := lk_bounds _ _ (by rw [hll2]; exact hl2) (by omega)
  have HD : Hid (max 0 (l1 - p1) = d ∧ max 0 (l2 - p2) = u) := ⟨by rw [hd, hll1, hpp1]; rfl, by rw [hu, hll2, hpp2]; rfl⟩
  have HLK : Hid (∀ W, Gs p.gb p.mb i N p.L W → Calls Tryz.prog 22 #[.pointer (some ⟨p.gb, 0, none⟩), .string ⟨#[107]⟩] W fun e w' => e = .returned (.agg #[.int .i64 l1, .int .i64 l2]) ∧ Below W.heap.size W w') := fun W hW => by rw [hll1, hll2]; exact lacks_any K1 W hW
  have HTK : Hid (∀ W, Gs p.gb p.mb i N p.L W → Blk W p.lb p.s.cs 82 → Vw p.hb p.vb i N p.V W → Calls Tryz.prog 14 #[.pointer (some ⟨p.gb, 0, none⟩), .string ⟨#[107]⟩, .pointer (some ⟨p.lb, 0, none⟩), .pointer (some ⟨p.hb, 0, none⟩)] W fun e w' => e = .returned (.tuple #[.int .i64 0, .agg #[.int .i64 0, .int .i64 0], .bool false]) ∧ Gs p.gb p.mb i N L' w' ∧ Chg (fun b => b = p.mb) W w') := fun W a b c => by
    have := tick_any K1 W a b c (by rw [IntKind.wrap_i64]; omega) (by omega) (by rw [← hll1, ← hpp1]; exact hw1) (by rw [← hll2, ← hpp2]; exact hw2)
    rw [← hd, ← hu, hT] at this
    exact this
  have HRP : Hid (∀ W, Blk W p.lb p.s.cs 82 → Calls Tryz.prog 11 #[.pointer (some ⟨p.lb, 0, none⟩)] W fun r w' => r = .returned (.agg #[.int .i64 p1, .int .i64 p2]) ∧ Below W.heap.size W w') := fun W a => by rw [hpp1, hpp2]; exact Led.rights_any W a
  have HSM : Hid (∀ W a b, Calls Tryz.prog 15 #[.agg #[.int .i64 a, .int .i64 b], .agg #[.int .i64 a, .int .i64 b]] W fun e w' => e = .returned (.bool true) ∧ Below W.heap.size W w') := fun W a b => by
    have := Led.same_any a b a b W
    simpa using this
  have HP : Hid (ps[i]? = some p) := hp
  have HP4P : Hid ((ps.set i { p with L := L' })[i]? = some { p with L := L' }) := by
    have h9 : (ps.set i { p with L := L' })[i]? = some { p with L := L' } := by rw [List.getElem?_set, if_pos rfl, if_pos (by rw [h.len]; exact hiN)]
    exact h9
  have HA : Hid (AS L0 N ab cap ps ps [] w w) := AS.start h
  clear h hp hsp hl1 hl2 hd hu hT hN2 hN8 hp2 hll1 hll2 hpp1 hpp2
  go_enter Tryz.func9, Tryz.ntmps9
  obtain ⟨X1, hX1⟩ : ∃ Z, Z = w.alloc (.cells #[.pointer (some ⟨p.gb, 0, none⟩), .pointer (some ⟨p.lb, 0, none⟩), .pointer (some ⟨p.hb, 0, none⟩)] 34) := ⟨_, rfl⟩
  obtain ⟨b6, hb6⟩ : ∃ b, b = w.heap.size := ⟨_, rfl⟩
  have HA1 : Hid (AS L0 N ab cap ps (ps) [(b6, #[.pointer (some ⟨p.gb, 0, none⟩), .pointer (some ⟨p.lb, 0, none⟩), .pointer (some ⟨p.hb, 0, none⟩)], 34)] w X1) := by
    have h9 := (HA.out).box #[.pointer (some ⟨p.gb, 0, none⟩), .pointer (some ⟨p.lb, 0, none⟩), .pointer (some ⟨p.hb, 0, none⟩)] 34 (.inl rfl)
    rw [← hX1, ← hb6] at h9
    exact h9
  go_upto_region 2 with fail
  rw [← hX1, ← hb6]
  clear hX1 hb6 c0 c1 c2 HA
  have e0 : X1.cell? ⟨b6, 0, none⟩ = some (.pointer (some ⟨p.gb, 0, none⟩)) := (HA1.out.bx (b6, #[.pointer (some ⟨p.gb, 0, none⟩), .pointer (some ⟨p.lb, 0, none⟩), .pointer (some ⟨p.hb, 0, none⟩)], 34) (.head _)).1.cell 0
  go_wp2_with fail
  refine Calls.mono (HLK.out X1 (HA1.out.all.pls.all i p HP.out).gs) ?_
  rintro e w2 ⟨rfl, hb2⟩
  obtain ⟨X2, hX2⟩ : ∃ Z, Z = w2.alloc (.cells #[.int .i64 l1, .int .i64 l2] 37) := ⟨_, rfl⟩
  obtain ⟨b7, hb7⟩ : ∃ b, b = w2.heap.size := ⟨_, rfl⟩
  have HA2 : Hid (AS L0 N ab cap ps (ps) [(b7, #[.int .i64 l1, .int .i64 l2], 37), (b6, #[.pointer (some ⟨p.gb, 0, none⟩), .pointer (some ⟨p.lb, 0, none⟩), .pointer (some ⟨p.hb, 0, none⟩)], 34)] w X2) := by
    have h9 := (HA1.out.more hb2).box #[.int .i64 l1, .int .i64 l2] 37 (.inr rfl)
    rw [← hX2, ← hb7] at h9
    exact h9
  go_upto_region 3 with fail
  rw [← hX2, ← hb7]
  clear hX2 hb7 e0 hb2 HA1 HLK
  have e0 : X2.cell? ⟨b6, 1, none⟩ = some (.pointer (some ⟨p.lb, 0, none⟩)) := (HA2.out.bx (b6, #[.pointer (some ⟨p.gb, 0, none⟩), .pointer (some ⟨p.lb, 0, none⟩), .pointer (some ⟨p.hb, 0, none⟩)], 34) (.tail _ (.head _))).1.cell 1
  go_wp2_with fail
  refine Calls.mono (HRP.out X2 (HA2.out.all.pls.all i p HP.out).ld) ?_
  rintro e w3 ⟨rfl, hb3⟩
  obtain ⟨X3, hX3⟩ : ∃ Z, Z = w3.alloc (.cells #[.int .i64 p1, .int .i64 p2] 37) := ⟨_, rfl⟩
  obtain ⟨b8, hb8⟩ : ∃ b, b = w3.heap.size := ⟨_, rfl⟩
  have HA3 : Hid (AS L0 N ab cap ps (ps) [(b8, #[.int .i64 p1, .int .i64 p2], 37), (b7, #[.int .i64 l1, .int .i64 l2], 37), (b6, #[.pointer (some ⟨p.gb, 0, none⟩), .pointer (some ⟨p.lb, 0, none⟩), .pointer (some ⟨p.hb, 0, none⟩)], 34)] w X3) := by
    have h9 := (HA2.out.more hb3).box #[.int .i64 p1, .int .i64 p2] 37 (.inr rfl)
    rw [← hX3, ← hb8] at h9
    exact h9
  go_upto_region 4 with fail
  rw [← hX3, ← hb8]
  clear hX3 hb8 e0 hb3 HA2
  have e0 : X3.cell? ⟨b6, 0, none⟩ = some (.pointer (some ⟨p.gb, 0, none⟩)) := (HA3.out.bx (b6, #[.pointer (some ⟨p.gb, 0, none⟩), .pointer (some ⟨p.lb, 0, none⟩), .pointer (some ⟨p.hb, 0, none⟩)], 34) (.tail _ (.tail _ (.head _)))).1.cell 0
  have e1 : X3.cell? ⟨b6, 1, none⟩ = some (.pointer (some ⟨p.lb, 0, none⟩)) := (HA3.out.bx (b6, #[.pointer (some ⟨p.gb, 0, none⟩), .pointer (some ⟨p.lb, 0, none⟩), .pointer (some ⟨p.hb, 0, none⟩)], 34) (.tail _ (.tail _ (.head _)))).1.cell 1
  have e2 : X3.cell? ⟨b6, 2, none⟩ = some (.pointer (some ⟨p.hb, 0, none⟩)) := (HA3.out.bx (b6, #[.pointer (some ⟨p.gb, 0, none⟩), .pointer (some ⟨p.lb, 0, none⟩), .pointer (some ⟨p.hb, 0, none⟩)], 34) (.tail _ (.tail _ (.head _)))).1.cell 2
  go_wp2_with fail
  refine Calls.mono (HTK.out X3 (HA3.out.all.pls.all i p HP.out).gs (HA3.out.all.pls.all i p HP.out).ld (HA3.out.all.pls.all i p HP.out).vw) ?_
  rintro e w4 ⟨rfl, hg4, hc4⟩
  have HA4a := HA3.out.setL HP.out hg4 hc4
  obtain ⟨X4, hX4⟩ : ∃ Z, Z = w4.alloc (.cells #[.int .i64 0, .int .i64 0] 37) := ⟨_, rfl⟩
  obtain ⟨b10, hb10⟩ : ∃ b, b = w4.heap.size := ⟨_, rfl⟩
  have HA4 : Hid (AS L0 N ab cap ps (ps.set i { p with L := L' }) [(b10, #[.int .i64 0, .int .i64 0], 37), (b8, #[.int .i64 p1, .int .i64 p2], 37), (b7, #[.int .i64 l1, .int .i64 l2], 37), (b6, #[.pointer (some ⟨p.gb, 0, none⟩), .pointer (some ⟨p.lb, 0, none⟩), .pointer (some ⟨p.hb, 0, none⟩)], 34)] w X4) := by
    have h9 := (HA4a).box #[.int .i64 0, .int .i64 0] 37 (.inr rfl)
    rw [← hX4, ← hb10] at h9
    exact h9
  go_upto_region 5 with fail
  rw [← hX4, ← hb10]
  clear hX4 hb10 e0 e1 e2 hg4 hc4 HA3 HA4a HTK
  have e0 : X4.cell? ⟨b7, 0, none⟩ = some (.int .i64 l1) := (HA4.out.bx (b7, #[.int .i64 l1, .int .i64 l2], 37) (.tail _ (.tail _ (.head _)))).1.cell 0
  have e1 : X4.cell? ⟨b7, 1, none⟩ = some (.int .i64 l2) := (HA4.out.bx (b7, #[.int .i64 l1, .int .i64 l2], 37) (.tail _ (.tail _ (.head _)))).1.cell 1
  have e2 : X4.cell? ⟨b8, 0, none⟩ = some (.int .i64 p1) := (HA4.out.bx (b8, #[.int .i64 p1, .int .i64 p2], 37) (.tail _ (.head _))).1.cell 0
  have e3 : X4.cell? ⟨b8, 1, none⟩ = some (.int .i64 p2) := (HA4.out.bx (b8, #[.int .i64 p1, .int .i64 p2], 37) (.tail _ (.head _))).1.cell 1
  go_upto_region 7 with fail
  rw [HD.out.1, HD.out.2]
  clear e0 e1 e2 e3 hw1 hw2
  have HB4 : Hid ((fun wq => Blk wq b6 #[.pointer (some ⟨p.gb, 0, none⟩), .pointer (some ⟨p.lb, 0, none⟩), .pointer (some ⟨p.hb, 0, none⟩)] 34 ∧ Blk wq b8 #[.int .i64 p1, .int .i64 p2] 37 ∧ Blk wq b10 #[.int .i64 0, .int .i64 0] 37 ∧ Blk wq p.lb p.s.cs 82) X4) := ⟨(HA4.out.bx (b6, #[.pointer (some ⟨p.gb, 0, none⟩), .pointer (some ⟨p.lb, 0, none⟩), .pointer (some ⟨p.hb, 0, none⟩)], 34) (.tail _ (.tail _ (.tail _ (.head _))))).1, (HA4.out.bx (b8, #[.int .i64 p1, .int .i64 p2], 37) (.tail _ (.head _))).1, (HA4.out.bx (b10, #[.int .i64 0, .int .i64 0], 37) (.head _)).1, (HA4.out.all.pls.all i _ HP4P.out).ld⟩
  go_wp2_with fail
  rename_i KK hK
  try rw [show ∀ a : Act, a.put none undef = a from fun _ => rfl]
  refine wp_region_mix (fun wq => Blk wq b6 #[.pointer (some ⟨p.gb, 0, none⟩), .pointer (some ⟨p.lb, 0, none⟩), .pointer (some ⟨p.hb, 0, none⟩)] 34 ∧ Blk wq b8 #[.int .i64 p1, .int .i64 p2] 37 ∧ Blk wq b10 #[.int .i64 0, .int .i64 0] 37 ∧ Blk wq p.lb p.s.cs 82) (fun i => i == 2 || i == 10 || i == 12 || i == 99) 99 (by kernel_rfl) rfl (by kernel_rfl) (by kernel_rfl) (by kernel_rfl) ?_
  refine withFrP (N := 213) rfl ?_
  intro f0 F0 hff
  have ee6 : f0 6 = Value.pointer (some ⟨b6, 0, none⟩) := hff 6
  have ee8 : f0 8 = Value.pointer (some ⟨b8, 0, none⟩) := hff 8
  have ee9 : f0 9 = Value.int .i64 0 := hff 9
  have ee10 : f0 10 = Value.pointer (some ⟨b10, 0, none⟩) := hff 10
  clear hff
  have HCC : (fun wq => Blk wq b6 #[.pointer (some ⟨p.gb, 0, none⟩), .pointer (some ⟨p.lb, 0, none⟩), .pointer (some ⟨p.hb, 0, none⟩)] 34 ∧ Blk wq b8 #[.int .i64 p1, .int .i64 p2] 37 ∧ Blk wq b10 #[.int .i64 0, .int .i64 0] 37 ∧ Blk wq p.lb p.s.cs 82) (({ X4 with drawn := X4.drawn + 1 } : World)) := HB4.out
  refine lyp F0 rfl HCC rfl (by omega) (wanted_none rfl) (v := Value.agg #[.int .i64 0, .int .i64 0]) (fun wr hwr => by simp only [execOp, (F0.eval 10 (by omega)).trans (show _ = Value.pointer (some ⟨b10, 0, none⟩) from by simp [upd, ee6, ee8, ee9, ee10])]; simp [go_sem, show wr.cell? ⟨b10, 0, none⟩ = some (.int .i64 0) from hwr.2.2.1.cell 0, show wr.cell? ⟨b10, 1, none⟩ = some (.int .i64 0) from hwr.2.2.1.cell 1]) fun F1 => ?_
  refine lyp F1 rfl HCC rfl (by omega) (wanted_none rfl) (v := Value.agg #[.int .i64 0, .int .i64 0]) (fun wr hwr => by simp only [execOp]; simp [go_sem, zero36]; try rfl) fun F2 => ?_
  refine lcp F2 rfl HCC rfl (by omega) (wanted_none rfl) (g := 15) (args := #[Value.agg #[.int .i64 0, .int .i64 0], Value.agg #[.int .i64 0, .int .i64 0]]) (by simp only [execOp, resolve, invoke, List.map_toArray, List.map_cons, List.map_nil, (F2.eval 53 (by omega)).trans (show _ = Value.agg #[.int .i64 0, .int .i64 0] from by simp [upd, ee6, ee8, ee9, ee10]), (F2.eval 54 (by omega)).trans (show _ = Value.agg #[.int .i64 0, .int .i64 0] from by simp [upd, ee6, ee8, ee9, ee10])]; simp [go_sem, Act.eval]) (HSM.out (({ X4 with drawn := X4.drawn + 1 } : World)) 0 0) ?_
  rintro e9 w5 ⟨rfl, hbw5⟩
  refine ⟨_, rfl, fun F3 => ?_⟩
  have HCw5 : (fun wq => Blk wq b6 #[.pointer (some ⟨p.gb, 0, none⟩), .pointer (some ⟨p.lb, 0, none⟩), .pointer (some ⟨p.hb, 0, none⟩)] 34 ∧ Blk wq b8 #[.int .i64 p1, .int .i64 p2] 37 ∧ Blk wq b10 #[.int .i64 0, .int .i64 0] 37 ∧ Blk wq p.lb p.s.cs 82) w5 := ⟨HCC.1.below hbw5 HCC.1.lt, HCC.2.1.below hbw5 HCC.2.1.lt, HCC.2.2.1.below hbw5 HCC.2.2.1.lt, HCC.2.2.2.below hbw5 HCC.2.2.2.lt⟩
  refine lyp F3 rfl HCw5 rfl (by omega) (wanted_none rfl) (v := Value.bool true) (fun wr hwr => by simp only [execOp, (F3.eval 55 (by omega)).trans (show _ = Value.bool true from by simp [upd, ee6, ee8, ee9, ee10])]; first | rfl | simp [go_sem]) fun F4 => ?_
  refine lyp F4 rfl HCw5 rfl (by omega) (want_yes F4 rfl (e := 56) rfl (by omega) (show _ = Value.bool true from by simp [upd, ee6, ee8, ee9, ee10])) (v := Value.int .i64 0) (fun wr hwr => by simp only [execOp, (F4.eval 9 (by omega)).trans (show _ = Value.int .i64 0 from by simp [upd, ee6, ee8, ee9, ee10])]; first | rfl | simp [go_sem]) fun F5 => ?_
  refine lyp F5 rfl HCw5 rfl (by omega) (want_yes F5 rfl (e := 56) rfl (by omega) (show _ = Value.bool true from by simp [upd, ee6, ee8, ee9, ee10])) (v := Value.bool true) (fun wr hwr => by simp only [execOp, (F5.eval 57 (by omega)).trans (show _ = Value.int .i64 0 from by simp [upd, ee6, ee8, ee9, ee10])]; simp [go_sem, Act.eval]) fun F6 => ?_
  refine lyp F6 rfl HCw5 rfl (by omega) (wanted_none rfl) (v := Value.bool true) (fun wr hwr => by simp only [execOp, (F6.eval 56 (by omega)).trans (show _ = Value.bool true from by simp [upd, ee6, ee8, ee9, ee10]), (F6.eval 58 (by omega)).trans (show _ = Value.bool true from by simp [upd, ee6, ee8, ee9, ee10])]; simp [go_sem, Act.eval]) fun F7 => ?_
  refine lyp F7 rfl HCw5 rfl (by omega) (wanted_none rfl) (v := Value.bool true) (fun wr hwr => by simp only [execOp, (F7.eval 59 (by omega)).trans (show _ = Value.bool true from by simp [upd, ee6, ee8, ee9, ee10])]; first | rfl | simp [go_sem]) fun F8 => ?_
  refine lyp F8 rfl HCw5 rfl (by omega) (want_yes F8 rfl (e := 60) rfl (by omega) (show _ = Value.bool true from by simp [upd, ee6, ee8, ee9, ee10])) (v := Value.pointer (some ⟨b6, 1, none⟩)) (fun wr hwr => by simp only [execOp, (F8.eval 6 (by omega)).trans (show _ = Value.pointer (some ⟨b6, 0, none⟩) from by simp [upd, ee6, ee8, ee9, ee10])]; simp [go_sem]) fun F9 => ?_
  refine lyp F9 rfl HCw5 rfl (by omega) (want_yes F9 rfl (e := 60) rfl (by omega) (show _ = Value.bool true from by simp [upd, ee6, ee8, ee9, ee10])) (v := Value.pointer (some ⟨p.lb, 0, none⟩)) (fun wr hwr => by simp only [execOp, (F9.eval 61 (by omega)).trans (show _ = Value.pointer (some ⟨b6, 1, none⟩) from by simp [upd, ee6, ee8, ee9, ee10])]; simp [go_sem, show wr.cell? ⟨b6, 1, none⟩ = some (.pointer (some ⟨p.lb, 0, none⟩)) from hwr.1.cell 1]) fun F10 => ?_
  refine lcp F10 rfl HCw5 rfl (by omega) (want_yes F10 rfl (e := 60) rfl (by omega) (show _ = Value.bool true from by simp [upd, ee6, ee8, ee9, ee10])) (g := 11) (args := #[Value.pointer (some ⟨p.lb, 0, none⟩)]) (by simp only [execOp, resolve, invoke, List.map_toArray, List.map_cons, List.map_nil, (F10.eval 62 (by omega)).trans (show _ = Value.pointer (some ⟨p.lb, 0, none⟩) from by simp [upd, ee6, ee8, ee9, ee10])]; simp [go_sem, Act.eval]) (HRP.out w5 HCw5.2.2.2) ?_
  rintro e9 w6 ⟨rfl, hbw6⟩
  refine ⟨_, rfl, fun F11 => ?_⟩
  have HCw6 : (fun wq => Blk wq b6 #[.pointer (some ⟨p.gb, 0, none⟩), .pointer (some ⟨p.lb, 0, none⟩), .pointer (some ⟨p.hb, 0, none⟩)] 34 ∧ Blk wq b8 #[.int .i64 p1, .int .i64 p2] 37 ∧ Blk wq b10 #[.int .i64 0, .int .i64 0] 37 ∧ Blk wq p.lb p.s.cs 82) w6 := ⟨HCw5.1.below hbw6 HCw5.1.lt, HCw5.2.1.below hbw6 HCw5.2.1.lt, HCw5.2.2.1.below hbw6 HCw5.2.2.1.lt, HCw5.2.2.2.below hbw6 HCw5.2.2.2.lt⟩
  refine lyp F11 rfl HCw6 rfl (by omega) (want_yes F11 rfl (e := 60) rfl (by omega) (show _ = Value.bool true from by simp [upd, ee6, ee8, ee9, ee10])) (v := Value.agg #[.int .i64 p1, .int .i64 p2]) (fun wr hwr => by simp only [execOp, (F11.eval 8 (by omega)).trans (show _ = Value.pointer (some ⟨b8, 0, none⟩) from by simp [upd, ee6, ee8, ee9, ee10])]; simp [go_sem, show wr.cell? ⟨b8, 0, none⟩ = some (.int .i64 p1) from hwr.2.1.cell 0, show wr.cell? ⟨b8, 1, none⟩ = some (.int .i64 p2) from hwr.2.1.cell 1]) fun F12 => ?_
  refine lcp F12 rfl HCw6 rfl (by omega) (want_yes F12 rfl (e := 60) rfl (by omega) (show _ = Value.bool true from by simp [upd, ee6, ee8, ee9, ee10])) (g := 15) (args := #[Value.agg #[.int .i64 p1, .int .i64 p2], Value.agg #[.int .i64 p1, .int .i64 p2]]) (by simp only [execOp, resolve, invoke, List.map_toArray, List.map_cons, List.map_nil, (F12.eval 63 (by omega)).trans (show _ = Value.agg #[.int .i64 p1, .int .i64 p2] from by simp [upd, ee6, ee8, ee9, ee10]), (F12.eval 64 (by omega)).trans (show _ = Value.agg #[.int .i64 p1, .int .i64 p2] from by simp [upd, ee6, ee8, ee9, ee10])]; simp [go_sem, Act.eval]) (HSM.out w6 p1 p2) ?_
  rintro e9 w7 ⟨rfl, hbw7⟩
  refine ⟨_, rfl, fun F13 => ?_⟩
  have HCw7 : (fun wq => Blk wq b6 #[.pointer (some ⟨p.gb, 0, none⟩), .pointer (some ⟨p.lb, 0, none⟩), .pointer (some ⟨p.hb, 0, none⟩)] 34 ∧ Blk wq b8 #[.int .i64 p1, .int .i64 p2] 37 ∧ Blk wq b10 #[.int .i64 0, .int .i64 0] 37 ∧ Blk wq p.lb p.s.cs 82) w7 := ⟨HCw6.1.below hbw7 HCw6.1.lt, HCw6.2.1.below hbw7 HCw6.2.1.lt, HCw6.2.2.1.below hbw7 HCw6.2.2.1.lt, HCw6.2.2.2.below hbw7 HCw6.2.2.2.lt⟩
  refine lyp F13 rfl HCw7 rfl (by omega) (wanted_none rfl) (v := Value.bool true) (fun wr hwr => by simp only [execOp, (F13.eval 60 (by omega)).trans (show _ = Value.bool true from by simp [upd, ee6, ee8, ee9, ee10]), (F13.eval 65 (by omega)).trans (show _ = Value.bool true from by simp [upd, ee6, ee8, ee9, ee10])]; simp [go_sem, Act.eval]) fun F14 => ?_
  refine lyp F14 rfl HCw7 rfl (by omega) (wanted_none rfl) (v := Value.bool true) (fun wr hwr => by simp only [execOp, (F14.eval 66 (by omega)).trans (show _ = Value.bool true from by simp [upd, ee6, ee8, ee9, ee10])]; first | rfl | simp [go_sem]) fun F15 => ?_
  refine lyp F15 rfl HCw7 rfl (by omega) (wanted_none rfl) (v := Value.bool false) (fun wr hwr => by simp only [execOp]; first | rfl | simp [go_sem, Act.eval]) fun F16 => ?_
  refine ⟨fun _ => HCw7, ?_⟩
  have hbb : Below X4.heap.size X4 w7 := (((show Below X4.heap.size X4 (({ X4 with drawn := X4.drawn + 1 } : World)) from Below.drew (Below.refl _ _)).trans hbw5).trans (hbw6.mono hbw5.size)).trans (hbw7.mono (Nat.le_trans hbw5.size hbw6.size))
  have HFI := HA4.out.more hbb
  refine hK _ _ ?_
  clear F0 F1 F2 F3 F4 F5 F6 F7 F8 F9 F10 F11 F12 F13 F14 F15 F16 ee6 ee8 ee9 ee10
  simp only [Act.put, List.setIfInBounds_toArray, List.set_cons_succ, List.set_cons_zero]
  have HZ : Hid _ := HFI
  clear HFI hbb hbw5 hbw6 hbw7
  go_wp2
  go_ret2
  exact ⟨rfl, HZ.out.all, HZ.out.chg⟩
end Go.Proofs.YtnphkmdanicemaaGreatDoor
