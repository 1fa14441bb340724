import Derived.Test.YtadfmnlkfcigoaaCl1
import Derived.Test.YtadfmnlkfcigoaaJoinG
namespace Go.Proofs.Ytadfmnlkfcigoaa
open Go.RowKit Go.PlainAid
set_option linter.unusedVariables false
set_option linter.unusedSimpArgs false
set_option maxRecDepth 100000 in
set_option maxHeartbeats 6400000 in
theorem call4 (a : PA) (s : PV) (q : Nat) (c1 c2 ee vv : Int) (w : World) (h : PN a s w) (hb : PBd s q) (hq : q ≤ 900) (hs1 : In64 c1) (hse : In64 ee) :
    Calls Try.prog 25 #[.pointer (some ⟨a.pb, 0, none⟩), .agg #[.int .i64 4, .int .i64 c1, .int .i64 c2, .int .i64 ee, .int .i64 vv]] w fun e w' => e = .returned (.bool true) ∧ PPost a s q s.x.la w w' := by
  obtain ⟨X, hX⟩ : ∃ X, X = w.alloc (.cells #[.int .i64 4, .int .i64 c1, .int .i64 c2, .int .i64 ee, .int .i64 vv] 34) := ⟨_, rfl⟩
  obtain ⟨bx, hbx⟩ : ∃ bx, bx = w.heap.size := ⟨_, rfl⟩
  have hbX : Below w.heap.size w X := by rw [hX]; exact (Below.refl _ _).alloc (Nat.le_refl _) _
  have hBX : Blk X bx #[.int .i64 4, .int .i64 c1, .int .i64 c2, .int .i64 ee, .int .i64 vv] 34 := by rw [hX, hbx]; exact heap_alloc_new w _
  have hX0 : PN a s X := h.more hbX
  have HBX : Hid (Below w.heap.size w X) := hbX
  have HBB : Hid (Blk X bx #[.int .i64 4, .int .i64 c1, .int .i64 c2, .int .i64 ee, .int .i64 vv] 34) := hBX
  have HPX : Hid (PN a s X) := hX0
  have HXN : Hid (¬ has (a.ents s) bx) := fun hh => by have := h.lt hh; omega
  have HBD : Hid (PBd s q) := hb
  obtain ⟨S, hSp, hSs⟩ := sortedOf s.x.op h.g.opn
  have HPD : Hid (Calls Try.prog 31 #[.pointer (some ⟨a.rb, 0, none⟩)] X fun e w' => ∃ v, e = .returned v ∧ w'.ownsRow X.heap.size 32 2 v S.length (flatC S) ∧ Below X.heap.size X w') := rpending_any X hX0.rc (by rw [h.g.op]; have := hb.op; omega) (by rw [h.g.op]; exact hSp) hSs
  have hSl : S.length ≤ 900 := by rw [hSp.length_eq]; have := hb.op; omega
  have HEN : Hid (∀ y ∈ S, ∀ W, PN a s W → Calls Try.prog 29 #[.pointer (some ⟨a.pb, 0, none⟩), .agg #[.int .i64 y.1, .int .i64 y.2, .int .i64 ee, .int .i64 vv]] W fun e w' => e = .returned (.bool true) ∧ PPost a s q s.x.la W w') := fun y hy W hW => pend a s q ⟨y.1, y.2, ee, vv⟩ W hW hb hq (by
    have hm := (h.g.opb y (hSp.mem_iff.1 hy)).1
    have := h.ok.ses
    have h1 := hm.1
    have h2 := hm.2.1
    unfold In64
    simp only
    omega)
  have HBD2 : Hid (PBd s (q + 1)) := show PBd s (q + 1) from ⟨by have := hb.op; omega, by have := hb.rp; omega, ⟨hb.mrk.1, by have := hb.mrk.2; omega⟩, by have := hb.lc; omega⟩
  have p1 : (w.alloc (.cells #[.int .i64 4, .int .i64 c1, .int .i64 c2, .int .i64 ee, .int .i64 vv] 34)).cell? ⟨a.pb, 1, none⟩ = some (.pointer (some ⟨a.rb, 0, none⟩)) := by rw [← hX]; exact hX0.box.cell 1
  have HGLO : Hid (∀ k, has (a.ents s) k → k < X.heap.size) := fun k hk => hX0.lt hk
  clear h hbX hBX hX0 hb hSp hSs
  go_enter Try.func25, Try.ntmps25
  go_wp2_with fail
  rw [← hX, ← hbx]
  clear hX hbx p1
  refine Calls.mono HPD.out ?_
  rintro e Y ⟨v, rfl, hrow, hbY⟩
  obtain ⟨ao, cap, hv, _, hcm, hrd⟩ := own_read hrow
  subst hv
  have HPY : Hid (PN a s Y) := HPX.out.more hbY
  have HBY : Hid (Blk Y bx #[.int .i64 4, .int .i64 c1, .int .i64 c2, .int .i64 ee, .int .i64 vv] 34) := show Blk Y bx #[.int .i64 4, .int .i64 c1, .int .i64 c2, .int .i64 ee, .int .i64 vv] 34 from Blk.below HBB.out hbY (Blk.lt HBB.out)
  have HBYX : Hid (Below w.heap.size w Y) := HBX.out.trans (hbY.mono HBX.out.size)
  by_cases hS0 : S.length = 0
  · have HFI : Hid (PPost a s q s.x.la w Y) := PPost.of HBX.out ⟨s, HPY.out, PStp.ofBelow hbY, HBD2.out, rfl⟩
    rw [hS0]
    clear hrow hrd hbY HPY HBY HPX HBB HEN HPD hS0
    go_wp2_with fail
    go_ret
    exact ⟨rfl, HFI.out⟩
  · obtain ⟨g, rfl, hg1, hg2, _⟩ := hrd (by omega)
    have HRS : Hid (Y.ownsRow X.heap.size 32 2 (.slice (some ⟨g, 0, none⟩) S.length cap) S.length (flatC S)) := hrow
    have HGL : Hid (g < Y.heap.size) := hg2
    have HGN : Hid (¬ has (a.ents s) g) := fun hh => by have := HGLO.out g hh; omega
    have HS1 : Hid (1 ≤ ((S.length : Nat) : Int)) := show 1 ≤ ((S.length : Nat) : Int) from by omega
    have HS2 : Hid (((S.length : Nat) : Int) ≤ 1000) := show ((S.length : Nat) : Int) ≤ 1000 from by omega
    have hSn : ¬ ((S.length : Nat) : Int) = 0 := by omega
    clear hrow hrd hbY HPX HBB HPD hg1 hg2
    go_wp2_with fail
    rename_i K12 hK12
    try rw [show ∀ a : Act, a.put none undef = a from fun _ => rfl]
    refine wp_region_mix (fun wq => (wq.cell? ⟨bx, 3, none⟩ = some (.int .i64 ee) ∧ wq.cell? ⟨bx, 4, none⟩ = some (.int .i64 vv)) ∧ (∀ (k : Nat) (y : Int × Int), S[k]? = some y → wq.cell? ⟨g, k * 2, none⟩ = some (.int .i64 y.1)) ∧ (∀ (k : Nat) (y : Int × Int), S[k]? = some y → wq.cell? ⟨g, k * 2 + 1, none⟩ = some (.int .i64 y.2))) (fun i => i == 6 || i == 14 || i == 99) 99 (by kernel_rfl) rfl (by kernel_rfl) (by kernel_rfl) (by kernel_rfl) ?_
    refine withFrP (N := 90) rfl ?_
    intro f0 F0 hff
    have e0 : f0 0 = Value.pointer (some ⟨a.pb, 0, none⟩) := hff 0
    have e3 : f0 3 = Value.pointer (some ⟨bx, 0, none⟩) := hff 3
    have e5 : f0 5 = Value.slice (some ⟨g, 0, none⟩) S.length cap := hff 5
    clear hff
    have HCC : (fun wq => (wq.cell? ⟨bx, 3, none⟩ = some (.int .i64 ee) ∧ wq.cell? ⟨bx, 4, none⟩ = some (.int .i64 vv)) ∧ (∀ (k : Nat) (y : Int × Int), S[k]? = some y → wq.cell? ⟨g, k * 2, none⟩ = some (.int .i64 y.1)) ∧ (∀ (k : Nat) (y : Int × Int), S[k]? = some y → wq.cell? ⟨g, k * 2 + 1, none⟩ = some (.int .i64 y.2))) (({ Y with drawn := Y.drawn + 1 } : World)) := ⟨⟨Blk.cell HBY.out 3, Blk.cell HBY.out 4⟩, fun k y hy => (cellC HRS.out hy).1, fun k y hy => (cellC HRS.out hy).2⟩
    refine lyp F0 rfl HCC rfl (by omega) (wanted_none rfl) (v := Value.pointer (some ⟨a.pb, 0, none⟩)) (fun wr hwr => by simp only [execOp, (F0.eval 0 (by omega)).trans (show _ = Value.pointer (some ⟨a.pb, 0, none⟩) from by simp [upd, e0, e3, e5])]; first | rfl | simp [go_sem]) fun F1 => ?_
    refine lyp F1 rfl HCC rfl (by omega) (wanted_none rfl) (v := Value.slice (some ⟨g, 0, none⟩) S.length cap) (fun wr hwr => by simp only [execOp, (F1.eval 5 (by omega)).trans (show _ = Value.slice (some ⟨g, 0, none⟩) S.length cap from by simp [upd, e0, e3, e5])]; first | rfl | simp [go_sem]) fun F2 => ?_
    refine lyp F2 rfl HCC rfl (by omega) (wanted_none rfl) (v := Value.pointer (some ⟨bx, 3, none⟩)) (fun wr hwr => by simp only [execOp, (F2.eval 3 (by omega)).trans (show _ = Value.pointer (some ⟨bx, 0, none⟩) from by simp [upd, e0, e3, e5])]; simp [go_sem]) fun F3 => ?_
    refine lyp F3 rfl HCC rfl (by omega) (wanted_none rfl) (v := Value.int .i64 ee) (fun wr hwr => by simp only [execOp, (F3.eval 54 (by omega)).trans (show _ = Value.pointer (some ⟨bx, 3, none⟩) from by simp [upd, e0, e3, e5])]; simp [go_sem, hwr.1.1]) fun F4 => ?_
    refine lyp F4 rfl HCC rfl (by omega) (wanted_none rfl) (v := Value.slice (some ⟨g, 0, none⟩) S.length cap) (fun wr hwr => by simp only [execOp, (F4.eval 5 (by omega)).trans (show _ = Value.slice (some ⟨g, 0, none⟩) S.length cap from by simp [upd, e0, e3, e5])]; first | rfl | simp [go_sem]) fun F5 => ?_
    refine lyp F5 rfl HCC rfl (by omega) (wanted_none rfl) (v := Value.int .i64 (S.length : Nat)) (fun wr hwr => by simp only [execOp, resolve, invoke, builtin, List.map_toArray, List.map_cons, List.map_nil, (F5.eval 56 (by omega)).trans (show _ = Value.slice (some ⟨g, 0, none⟩) S.length cap from by simp [upd, e0, e3, e5])]; simp [go_sem, Builtin.len_, Builtin.lenOf]) fun F6 => ?_
    refine lcp F6 rfl HCC rfl (by omega) (wanted_none rfl) (g := 9) (args := #[Value.int .i64 ee, Value.int .i64 (S.length : Nat)]) (by simp only [execOp, resolve, invoke, List.map_toArray, List.map_cons, List.map_nil, (F6.eval 55 (by omega)).trans (show _ = Value.int .i64 ee from by simp [upd, e0, e3, e5]), (F6.eval 57 (by omega)).trans (show _ = Value.int .i64 (S.length : Nat) from by simp [upd, e0, e3, e5])]; simp [go_sem, Act.eval]) (slot_any ee (S.length : Nat) ({ Y with drawn := Y.drawn + 1 } : World) HS1.out HS2.out hse) ?_
    rintro e v2 ⟨zi, hz0, hz1, rfl, hv2⟩
    replace hv2 := hv2.symm
    subst hv2
    obtain ⟨k, rfl⟩ : ∃ k : Nat, zi = k := ⟨zi.toNat, by omega⟩
    have hk : k < S.length := by omega
    obtain ⟨y, hy⟩ : ∃ y, S[k]? = some y := ⟨S[k], List.getElem?_eq_getElem hk⟩
    obtain ⟨c0, c1'⟩ := cellC HRS.out hy
    refine ⟨_, rfl, fun F7 => ?_⟩
    refine lyp F7 rfl HCC rfl (by omega) (wanted_none rfl) (v := Value.pointer (some ⟨g, k * 2, none⟩)) (fun wr hwr => by simp only [execOp, (F7.eval 53 (by omega)).trans (show _ = Value.slice (some ⟨g, 0, none⟩) S.length cap from by simp [upd, e0, e3, e5]), (F7.eval 58 (by omega)).trans (show _ = Value.int .i64 ((k : Nat) : Int) from by simp [upd, e0, e3, e5])]; simp only [Sem.run_bind, Sem.run_pure, Result.andThen_ok, idx_run 79 32 2 Try.underlying79 rfl wr g 0 S.length cap k hk, Nat.zero_add]; try rfl) fun F8 => ?_
    refine lyp F8 rfl HCC rfl (by omega) (wanted_none rfl) (v := Value.agg #[.int .i64 y.1, .int .i64 y.2]) (fun wr hwr => by simp only [execOp, (F8.eval 59 (by omega)).trans (show _ = Value.pointer (some ⟨g, k * 2, none⟩) from by simp [upd, e0, e3, e5])]; simp [go_sem, hwr.2.1 k y hy, hwr.2.2 k y hy]) fun F9 => ?_
    refine lyp F9 rfl HCC rfl (by omega) (wanted_none rfl) (v := Value.pointer (some ⟨bx, 3, none⟩)) (fun wr hwr => by simp only [execOp, (F9.eval 3 (by omega)).trans (show _ = Value.pointer (some ⟨bx, 0, none⟩) from by simp [upd, e0, e3, e5])]; simp [go_sem]) fun F10 => ?_
    refine lyp F10 rfl HCC rfl (by omega) (wanted_none rfl) (v := Value.int .i64 ee) (fun wr hwr => by simp only [execOp, (F10.eval 61 (by omega)).trans (show _ = Value.pointer (some ⟨bx, 3, none⟩) from by simp [upd, e0, e3, e5])]; simp [go_sem, hwr.1.1]) fun F11 => ?_
    refine lyp F11 rfl HCC rfl (by omega) (wanted_none rfl) (v := Value.pointer (some ⟨bx, 4, none⟩)) (fun wr hwr => by simp only [execOp, (F11.eval 3 (by omega)).trans (show _ = Value.pointer (some ⟨bx, 0, none⟩) from by simp [upd, e0, e3, e5])]; simp [go_sem]) fun F12 => ?_
    refine lyp F12 rfl HCC rfl (by omega) (wanted_none rfl) (v := Value.int .i64 vv) (fun wr hwr => by simp only [execOp, (F12.eval 63 (by omega)).trans (show _ = Value.pointer (some ⟨bx, 4, none⟩) from by simp [upd, e0, e3, e5])]; simp [go_sem, hwr.1.2]) fun F13 => ?_
    refine lyp F13 rfl HCC rfl (by omega) (wanted_none rfl) (v := Value.agg #[.int .i64 y.1, .int .i64 y.2, .int .i64 ee, .int .i64 vv]) (fun wr hwr => by simp only [execOp, List.map_toArray, List.map_cons, List.map_nil, (F13.eval 60 (by omega)).trans (show _ = Value.agg #[.int .i64 y.1, .int .i64 y.2] from by simp [upd, e0, e3, e5]), (F13.eval 62 (by omega)).trans (show _ = Value.int .i64 ee from by simp [upd, e0, e3, e5]), (F13.eval 64 (by omega)).trans (show _ = Value.int .i64 vv from by simp [upd, e0, e3, e5])]; simp [go_sem]) fun F14 => ?_
    refine lcp F14 rfl HCC rfl (by omega) (wanted_none rfl) (g := 29) (args := #[Value.pointer (some ⟨a.pb, 0, none⟩), Value.agg #[.int .i64 y.1, .int .i64 y.2, .int .i64 ee, .int .i64 vv]]) (by simp only [execOp, resolve, invoke, List.map_toArray, List.map_cons, List.map_nil, (F14.eval 52 (by omega)).trans (show _ = Value.pointer (some ⟨a.pb, 0, none⟩) from by simp [upd, e0, e3, e5]), (F14.eval 65 (by omega)).trans (show _ = Value.agg #[.int .i64 y.1, .int .i64 y.2, .int .i64 ee, .int .i64 vv] from by simp [upd, e0, e3, e5])]; simp [go_sem, Act.eval]) (HEN.out y (List.mem_of_getElem? hy) ({ Y with drawn := Y.drawn + 1 } : World) (HPY.out.more (Below.drew (Below.refl Y.heap.size Y)))) ?_
    rintro e v3 ⟨rfl, hpp⟩
    obtain ⟨s3, hn3, hst3, hbd3, hla3⟩ := hpp
    have hB3 : Blk v3 bx #[.int .i64 4, .int .i64 c1, .int .i64 c2, .int .i64 ee, .int .i64 vv] 34 := Chg.blk (w := ({ Y with drawn := Y.drawn + 1 } : World)) hst3.chg HBY.out HXN.out
    have HC3 : (fun wq => (wq.cell? ⟨bx, 3, none⟩ = some (.int .i64 ee) ∧ wq.cell? ⟨bx, 4, none⟩ = some (.int .i64 vv)) ∧ (∀ (k : Nat) (y : Int × Int), S[k]? = some y → wq.cell? ⟨g, k * 2, none⟩ = some (.int .i64 y.1)) ∧ (∀ (k : Nat) (y : Int × Int), S[k]? = some y → wq.cell? ⟨g, k * 2 + 1, none⟩ = some (.int .i64 y.2))) v3 := ⟨⟨hB3.cell 3, hB3.cell 4⟩, fun k y hy => (World.cell?_of_block (w := Y) (hst3.chg.block g (Nat.lt_of_lt_of_le HGL.out (Nat.le_refl _)) HGN.out)).trans (cellC HRS.out hy).1, fun k y hy => (World.cell?_of_block (w := Y) (hst3.chg.block g (Nat.lt_of_lt_of_le HGL.out (Nat.le_refl _)) HGN.out)).trans (cellC HRS.out hy).2⟩
    have HFI : Hid (PPost a s q s.x.la w v3) := PPost.of (HBYX.out.trans ((Below.drew (Below.refl Y.heap.size Y)).mono HBYX.out.size)) ⟨s3, hn3, hst3, hbd3, hla3⟩
    refine ⟨_, rfl, fun F15 => ?_⟩
    refine lyp F15 rfl HC3 rfl (by omega) (wanted_none rfl) (v := Value.bool true) (fun wr hwr => by simp only [execOp, (F15.eval 66 (by omega)).trans (show _ = Value.bool true from by simp [upd, e0, e3, e5])]; first | rfl | simp [go_sem]) fun F16 => ?_
    refine ⟨fun _ => HC3, ?_⟩
    refine hK12 _ _ ?_
    clear F0 F1 F2 F3 F4 F5 F6 F7 F8 F9 F10 F11 F12 F13 F14 F15 F16 e0 e3 e5 HCC HC3
    simp only [Act.put, List.setIfInBounds_toArray, List.set_cons_succ, List.set_cons_zero]
    clear hn3 hst3 hbd3 hla3 hB3 HEN HPY HBY HRS
    go_wp2_with fail
    go_ret
    exact ⟨rfl, HFI.out⟩
end Go.Proofs.Ytadfmnlkfcigoaa
