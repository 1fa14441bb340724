import Derived.Test.YtjmbhaoehfdpoaaDoorVTl
namespace Go.Proofs.YtjmbhaoehfdpoaaDoor
open Go.RowKit Go.PlainAid Go.MapKept
set_option linter.unusedVariables false
set_option linter.unusedSimpArgs false
/-- How many names of a digest are new. -/
def strangeC (r : Int) (L : List Ent) (es : List Ent) : Nat := es.countP fun e => (look r e.n L).isNone
theorem strangeC_le (r : Int) (L : List Ent) (es : List Ent) : strangeC r L es ≤ es.length := List.countP_le_length
set_option maxRecDepth 100000 in
set_option maxHeartbeats 3200000 in
theorem strange_any {hb mb : Nat} {me M : Int} {L : List Ent} (r : Int) (ao : Option Addr) (K cap : Nat) (es : List Ent) (w : World) (hV : Vw hb mb me M L w) (hl : es.length = K) (hK : K ≤ 64) (hf : FromV w ao es) :
    Calls Tryd.prog 70 #[.pointer (some ⟨hb, 0, none⟩), .int .i64 r, .slice ao K cap] w fun q w' => q = .returned (.int .i64 (strangeC r L es : Nat)) ∧ Below w.heap.size w w' := by
  have HL : Hid _ := hl
  have HF : Hid _ := hf
  have HV : Hid _ := hV
  clear hl hf hV
  go_enter Tryd.func70, Tryd.ntmps70
  go_wp2_with fail
  go_loopw [7, 14] (fun s i wr => ∃ q : Nat, q ≤ K ∧ i = .int .i64 q ∧ s = .int .i64 (strangeC r L (es.take q) : Nat) ∧ Below w.heap.size w wr) (fun _ i _ => K - (intOf i).toNat)
  case atStart => exact ⟨0, Nat.zero_le _, rfl, rfl, Below.refl _ _⟩
  case round =>
    obtain ⟨q, hq, rfl, rfl, hbel⟩ := hrel
    by_cases hlt : q < K
    · obtain ⟨e, he⟩ : ∃ e, es[q]? = some e := ⟨es[q]'(by rw [HL.out]; exact hlt), List.getElem?_eq_getElem _⟩
      obtain ⟨b, off, rfl, hc⟩ := HF.out (by rw [HL.out]; omega)
      obtain ⟨d0, d1, d2, d3, d4, d5, d6⟩ := (hc q e he).keep (hbel.block b (hc q e he).lt)
      obtain ⟨l0, hl0⟩ : ∃ l0, l0 = lookD r e.n L := ⟨_, rfl⟩
      obtain ⟨is0, his0⟩ : ∃ b, b = (look r e.n L).isSome := ⟨_, rfl⟩
      have HLK : ∀ wr, Vw hb mb me M L wr → (Instr.lookup 64 (.map (some mb)) (.agg #[.int .i64 r, .string ⟨e.n.toArray⟩]) true).run Tryd.prog wr = .ok (.tuple #[.agg #[.string ⟨l0.n.toArray⟩, .int .i64 l0.c, .int .i64 l0.rc, .int .i64 l0.v, .int .i64 l0.d, .int .i64 l0.u, .int .i64 l0.h], .bool is0]) wr := fun wr hw => by
        have := hw.map.look_ok r e.n true
        rw [← hl0, ← his0] at this
        exact this
      have hst : strangeC r L (es.take (q + 1)) = strangeC r L (es.take q) + (bif is0 then 0 else 1) := by
        rw [List.take_add_one, he]
        unfold strangeC
        rw [List.countP_append, his0]
        cases hlq : look r e.n L <;> simp [hlq]
      have hbn := strangeC_le r L (es.take q)
      have hbn2 := List.length_take_le q es
      have HST : Hid _ := hst
      have HBL : Hid _ := hbel
      have hgr : Below wr.heap.size wr (wr.alloc (.cells #[.string ⟨e.n.toArray⟩, .int .i64 e.c, .int .i64 e.rc, .int .i64 e.v, .int .i64 e.d, .int .i64 e.u, .int .i64 e.h] 86)) := (Below.refl _ _).alloc (Nat.le_refl _) _
      have HVB := box_cells (view_box e wr)
      have HH := (HV.out.more hbel).more hgr
      have HBX : Hid (Below w.heap.size w (wr.alloc (.cells #[.string ⟨e.n.toArray⟩, .int .i64 e.c, .int .i64 e.rc, .int .i64 e.v, .int .i64 e.d, .int .i64 e.u, .int .i64 e.h] 86))) := hbel.trans (hgr.mono hbel.size)
      generalize strangeC r L (es.take q) = s0 at *
      clear hl0 his0 he hc hbel hst hgr
      go_wp2_with fail
      clear d0 d1 d2 d3 d4 d5 d6
      generalize wr.alloc (.cells #[.string ⟨e.n.toArray⟩, .int .i64 e.c, .int .i64 e.rc, .int .i64 e.v, .int .i64 e.d, .int .i64 e.u, .int .i64 e.h] 86) = X at *
      generalize wr.heap.size = bx at *
      rename_i K hK
      try rw [show ∀ a : Act, a.put none undef = a from fun _ => rfl]
      refine wp_region_mix (fun wq => Below X.heap.size X wq) (fun i => i == 12 || i == 13 || i == 99) 99 (by kernel_rfl) rfl (by kernel_rfl) (by kernel_rfl) (by kernel_rfl) ?_
      refine withFrP (N := 36) rfl ?_
      intro f0 F0 hff
      have e0 : f0 0 = Value.pointer (some ⟨hb, 0, none⟩) := hff 0
      have e1 : f0 1 = Value.int .i64 r := hff 1
      have e9 : f0 9 = Value.pointer (some ⟨bx, 0, none⟩) := hff 9
      clear hff
      have HCC : (fun wq => Below X.heap.size X wq) (({ X with drawn := X.drawn + 1 } : World)) := (Below.drew (Below.refl X.heap.size X))
      have VH : ∀ wr, Below X.heap.size X wr → Vw hb mb me M L wr := fun wr hw => ⟨HH.blk.below hw HH.blk.lt, HH.map.same (hw.block mb HH.map.lt)⟩
      have VB : ∀ wr, Below X.heap.size X wr → VAt wr bx 0 e := fun wr hw => HVB.keep (hw.block bx HVB.lt)
      have HC2 : (fun wq => Below X.heap.size X wq) (({ X with drawn := X.drawn + 1 } : World).alloc (.cells #[.string ⟨#[]⟩, .int .i64 0, .int .i64 0, .int .i64 0, .int .i64 0, .int .i64 0, .int .i64 0] 86)) := HCC.alloc (Nat.le_refl _) _
      have HC3 : (fun wq => Below X.heap.size X wq) (({ X with drawn := X.drawn + 1 } : World).alloc (.cells #[.string ⟨l0.n.toArray⟩, .int .i64 l0.c, .int .i64 l0.rc, .int .i64 l0.v, .int .i64 l0.d, .int .i64 l0.u, .int .i64 l0.h] 86)) := HCC.alloc (Nat.le_refl _) _
      refine lyp F0 rfl HCC rfl (by omega) (wanted_none rfl) (v := Value.pointer (some ⟨hb, 0, none⟩)) (fun wr hwr => by simp only [execOp, (F0.eval 0 (by omega)).trans (show _ = Value.pointer (some ⟨hb, 0, none⟩) from by simp [upd, e0, e1, e9])]; first | rfl | simp [go_sem]) fun F1 => ?_
      refine lyp F1 rfl HCC rfl (by omega) (wanted_none rfl) (v := Value.pointer (some ⟨hb, 0, none⟩)) (fun wr hwr => by simp only [execOp, (F1.eval 19 (by omega)).trans (show _ = Value.pointer (some ⟨hb, 0, none⟩) from by simp [upd, e0, e1, e9])]; simp [go_sem]) fun F2 => ?_
      refine lyp F2 rfl HCC rfl (by omega) (wanted_none rfl) (v := Value.pointer (some ⟨hb, 2, none⟩)) (fun wr hwr => by simp only [execOp, (F2.eval 20 (by omega)).trans (show _ = Value.pointer (some ⟨hb, 0, none⟩) from by simp [upd, e0, e1, e9])]; simp [go_sem]) fun F3 => ?_
      refine lyp F3 rfl HCC rfl (by omega) (wanted_none rfl) (v := Value.map (some mb)) (fun wr hwr => by simp only [execOp, (F3.eval 21 (by omega)).trans (show _ = Value.pointer (some ⟨hb, 2, none⟩) from by simp [upd, e0, e1, e9])]; simp [go_sem, (VH wr hwr).c2]) fun F4 => ?_
      refine lyp F4 rfl HCC rfl (by omega) (wanted_none rfl) (v := Value.int .i64 r) (fun wr hwr => by simp only [execOp, (F4.eval 1 (by omega)).trans (show _ = Value.int .i64 r from by simp [upd, e0, e1, e9])]; first | rfl | simp [go_sem]) fun F5 => ?_
      refine lyp F5 rfl HCC rfl (by omega) (wanted_none rfl) (v := Value.pointer (some ⟨bx, 0, none⟩)) (fun wr hwr => by simp only [execOp, (F5.eval 9 (by omega)).trans (show _ = Value.pointer (some ⟨bx, 0, none⟩) from by simp [upd, e0, e1, e9])]; simp [go_sem]) fun F6 => ?_
      refine lyp F6 rfl HCC rfl (by omega) (wanted_none rfl) (v := Value.string ⟨e.n.toArray⟩) (fun wr hwr => by simp only [execOp, (F6.eval 24 (by omega)).trans (show _ = Value.pointer (some ⟨bx, 0, none⟩) from by simp [upd, e0, e1, e9])]; simp [go_sem, (VB wr hwr).c0]) fun F7 => ?_
      refine lyp F7 rfl HCC rfl (by omega) (wanted_none rfl) (v := Value.agg #[.int .i64 r, .string ⟨e.n.toArray⟩]) (fun wr hwr => by simp only [execOp, (F7.eval 23 (by omega)).trans (show _ = Value.int .i64 r from by simp [upd, e0, e1, e9]), (F7.eval 25 (by omega)).trans (show _ = Value.string ⟨e.n.toArray⟩ from by simp [upd, e0, e1, e9])]; simp [go_sem, Act.eval]) fun F8 => ?_
      refine lyp F8 rfl HCC rfl (by omega) (wanted_none rfl) (v := Value.tuple #[.agg #[.string ⟨l0.n.toArray⟩, .int .i64 l0.c, .int .i64 l0.rc, .int .i64 l0.v, .int .i64 l0.d, .int .i64 l0.u, .int .i64 l0.h], .bool is0]) (fun wr hwr => by simp only [execOp, (F8.eval 22 (by omega)).trans (show _ = Value.map (some mb) from by simp [upd, e0, e1, e9]), (F8.eval 26 (by omega)).trans (show _ = Value.agg #[.int .i64 r, .string ⟨e.n.toArray⟩] from by simp [upd, e0, e1, e9])]; simp [go_sem, HLK wr (VH wr hwr)]) fun F9 => ?_
      refine lyp F9 rfl HCC rfl (by omega) (wanted_none rfl) (v := Value.tuple #[.agg #[.string ⟨l0.n.toArray⟩, .int .i64 l0.c, .int .i64 l0.rc, .int .i64 l0.v, .int .i64 l0.d, .int .i64 l0.u, .int .i64 l0.h], .bool is0]) (fun wr hwr => by simp only [execOp, (F9.eval 27 (by omega)).trans (show _ = Value.tuple #[.agg #[.string ⟨l0.n.toArray⟩, .int .i64 l0.c, .int .i64 l0.rc, .int .i64 l0.v, .int .i64 l0.d, .int .i64 l0.u, .int .i64 l0.h], .bool is0] from by simp [upd, e0, e1, e9])]; first | rfl | simp [go_sem]) fun F10 => ?_
      refine lyp F10 rfl HCC rfl (by omega) (wanted_none rfl) (v := Value.agg #[.string ⟨l0.n.toArray⟩, .int .i64 l0.c, .int .i64 l0.rc, .int .i64 l0.v, .int .i64 l0.d, .int .i64 l0.u, .int .i64 l0.h]) (fun wr hwr => by simp only [execOp, (F10.eval 18 (by omega)).trans (show _ = Value.tuple #[.agg #[.string ⟨l0.n.toArray⟩, .int .i64 l0.c, .int .i64 l0.rc, .int .i64 l0.v, .int .i64 l0.d, .int .i64 l0.u, .int .i64 l0.h], .bool is0] from by simp [upd, e0, e1, e9])]; simp [go_sem]) fun F11 => ?_
      refine lyp F11 rfl HCC rfl (by omega) (wanted_none rfl) (v := Value.bool is0) (fun wr hwr => by simp only [execOp, (F11.eval 18 (by omega)).trans (show _ = Value.tuple #[.agg #[.string ⟨l0.n.toArray⟩, .int .i64 l0.c, .int .i64 l0.rc, .int .i64 l0.v, .int .i64 l0.d, .int .i64 l0.u, .int .i64 l0.h], .bool is0] from by simp [upd, e0, e1, e9])]; simp [go_sem]) fun F12 => ?_
      refine lep F12 rfl HCC rfl (by omega) (wanted_none rfl) (v := Value.pointer (some ⟨X.heap.size, 0, none⟩)) (w1 := ({ X with drawn := X.drawn + 1 } : World).alloc (.cells #[.string ⟨#[]⟩, .int .i64 0, .int .i64 0, .int .i64 0, .int .i64 0, .int .i64 0, .int .i64 0] 86)) (by simp only [execOp]; simp [go_sem, zero46, zed, viewV]) fun F13 => ?_
      refine lst rfl HC2 rfl (wanted_none rfl) (w1 := ({ X with drawn := X.drawn + 1 } : World).alloc (.cells #[.string ⟨l0.n.toArray⟩, .int .i64 l0.c, .int .i64 l0.rc, .int .i64 l0.v, .int .i64 l0.d, .int .i64 l0.u, .int .i64 l0.h] 86)) (by simp only [execOp, (F13.eval 10 (by omega)).trans (show _ = Value.pointer (some ⟨X.heap.size, 0, none⟩) from by simp [upd, e0, e1, e9]), (F13.eval 28 (by omega)).trans (show _ = Value.agg #[.string ⟨l0.n.toArray⟩, .int .i64 l0.c, .int .i64 l0.rc, .int .i64 l0.v, .int .i64 l0.d, .int .i64 l0.u, .int .i64 l0.h] from by simp [upd, e0, e1, e9])]; simp [go_sem]) ?_
      refine lyp F13 rfl HC3 rfl (by omega) (wanted_none rfl) (v := Value.bool is0) (fun wr hwr => by simp only [execOp, (F13.eval 29 (by omega)).trans (show _ = Value.bool is0 from by simp [upd, e0, e1, e9])]; first | rfl | simp [go_sem]) fun F14 => ?_
      refine ⟨fun _ => HC3, ?_⟩
      refine hK _ _ ?_
      clear F0 F1 F2 F3 F4 F5 F6 F7 F8 F9 F10 F11 F12 F13 F14 e0 e1 e9 HCC VH VB HC2 HC3
      simp only [Act.put, List.setIfInBounds_toArray, List.set_cons_succ, List.set_cons_zero]
      have HB4 : Hid (Below w.heap.size w (({ X with drawn := X.drawn + 1 } : World).alloc (.cells #[.string ⟨l0.n.toArray⟩, .int .i64 l0.c, .int .i64 l0.rc, .int .i64 l0.v, .int .i64 l0.d, .int .i64 l0.u, .int .i64 l0.h] 86))) := HBX.out.trans (((Below.drew (Below.refl X.heap.size X)).alloc (Nat.le_refl _) _).mono HBX.out.size)
      clear HH HVB HLK HBL
      have hw : IntKind.i64.wrap ((s0 : Int) + 1) = ((s0 + 1 : Nat) : Int) := by rw [IntKind.wrap_i64]; omega
      cases is0
      · go_wp2_with fail
        go_roundw
        case rel => exact ⟨q + 1, by omega, by go_num, by first | rw [HST.out]; rfl | (rw [HST.out]; simp), HB4.out⟩
        case measure => simp [intOf]; omega
      · go_wp2_with fail
        go_roundw
        case rel => exact ⟨q + 1, by omega, by go_num, by rw [HST.out]; rfl, HB4.out⟩
        case measure => simp [intOf]; omega
    · have hqq : es.take q = es := List.take_of_length_le (by rw [HL.out]; omega)
      rw [hqq]
      have HB : Hid _ := hbel
      clear hbel hqq
      go_wp2_with fail
      go_ret
      exact ⟨rfl, HB.out⟩
end Go.Proofs.YtjmbhaoehfdpoaaDoor
