import Derived.Test.YtnphkmdanicemaaGreatDoorVTl
namespace Go.Proofs.YtnphkmdanicemaaGreatDoor
open Go.RowKit Go.PlainAid Go.MapKept
set_option linter.unusedVariables false
set_option linter.unusedSimpArgs false
/-- How many names of a digest are new. -/
def strangeC (r : Int) (L : List Ent) (es : List Ent) : Nat := es.countP fun e => (look r e.n L).isNone
theorem strangeC_le (r : Int) (L : List Ent) (es : List Ent) : strangeC r L es ≤ es.length := List.countP_le_length
set_option maxRecDepth 100000 in
set_option maxHeartbeats 3200000 in
theorem strange_any {hb mb : Nat} {me M : Int} {L : List Ent} (r : Int) (ao : Option Addr) (K cap : Nat) (es : List Ent) (w : World) (hV : Vw hb mb me M L w) (hl : es.length = K) (hK : K ≤ 64) (hf : FromV w ao es) :
    Calls Tryz.prog 54 #[.pointer (some ⟨hb, 0, none⟩), .int .i64 r, .slice ao K cap] w fun q w' => q = .returned (.int .i64 (strangeC r L es : Nat)) ∧ Below w.heap.size w w' := by
  have HL : Hid _ := hl
  have HF : Hid _ := hf
  have HV : Hid _ := hV
  clear hl hf hV
  go_enter Tryz.func54, Tryz.ntmps54
  go_wp2_with fail
  go_loopw [7, 14] (fun s i wr => ∃ q : Nat, q ≤ K ∧ i = .int .i64 q ∧ s = .int .i64 (strangeC r L (es.take q) : Nat) ∧ Below w.heap.size w wr) (fun _ i _ => K - (intOf i).toNat)
  case atStart => exact ⟨0, Nat.zero_le _, rfl, rfl, Below.refl _ _⟩
  case round =>
    obtain ⟨q, hq, rfl, rfl, hbel⟩ := hrel
    by_cases hlt : q < K
    · obtain ⟨e, he⟩ : ∃ e, es[q]? = some e := ⟨es[q]'(by rw [HL.out]; exact hlt), List.getElem?_eq_getElem _⟩
      obtain ⟨b, off, rfl, hc⟩ := HF.out (by rw [HL.out]; omega)
      obtain ⟨d0, d1, d2, d3, d4, d5, d6⟩ := (hc q e he).keep (hbel.block b (hc q e he).lt)
      obtain ⟨l0, hl0⟩ : ∃ l0, l0 = lookD r e.n L := ⟨_, rfl⟩
      obtain ⟨is0, his0⟩ : ∃ b, b = (look r e.n L).isSome := ⟨_, rfl⟩
      have HLK : ∀ wr, Vw hb mb me M L wr → (Instr.lookup 96 (.map (some mb)) (.agg #[.int .i64 r, .string ⟨e.n.toArray⟩]) true).run Tryz.prog wr = .ok (.tuple #[.agg #[.string ⟨l0.n.toArray⟩, .int .i64 l0.c, .int .i64 l0.rc, .int .i64 l0.v, .int .i64 l0.d, .int .i64 l0.u, .int .i64 l0.h], .bool is0]) wr := fun wr hw => by
        have := hw.map.look_ok r e.n true
        rw [← hl0, ← his0] at this
        exact this
      have hst : strangeC r L (es.take (q + 1)) = strangeC r L (es.take q) + (bif is0 then 0 else 1) := by
        rw [List.take_add_one, he]
        unfold strangeC
        rw [List.countP_append, his0]
        cases hlq : look r e.n L <;> simp [hlq]
      have hbn := strangeC_le r L (es.take q)
      have hbn2 := List.length_take_le q es
      have HST : Hid _ := hst
      have HBL : Hid _ := hbel
      have hgr : Below wr.heap.size wr (wr.alloc (.cells #[.string ⟨e.n.toArray⟩, .int .i64 e.c, .int .i64 e.rc, .int .i64 e.v, .int .i64 e.d, .int .i64 e.u, .int .i64 e.h] 105)) := (Below.refl _ _).alloc (Nat.le_refl _) _
      have HVB := box_cells (view_box e wr)
      have HH := (HV.out.more hbel).more hgr
      have HBX : Hid (Below w.heap.size w (wr.alloc (.cells #[.string ⟨e.n.toArray⟩, .int .i64 e.c, .int .i64 e.rc, .int .i64 e.v, .int .i64 e.d, .int .i64 e.u, .int .i64 e.h] 105))) := hbel.trans (hgr.mono hbel.size)
      generalize strangeC r L (es.take q) = s0 at *
      clear hl0 his0 he hc hbel hst hgr
      go_wp2_with fail
      clear d0 d1 d2 d3 d4 d5 d6
      generalize wr.alloc (.cells #[.string ⟨e.n.toArray⟩, .int .i64 e.c, .int .i64 e.rc, .int .i64 e.v, .int .i64 e.d, .int .i64 e.u, .int .i64 e.h] 105) = X at *
      generalize wr.heap.size = bx at *
      rename_i K hK
      try rw [show ∀ a : Act, a.put none undef = a from fun _ => rfl]
      refine wp_region_mix (fun wq => Below X.heap.size X wq) (fun i => i == 12 || i == 13 || i == 99) 99 (by kernel_rfl) rfl (by kernel_rfl) (by kernel_rfl) (by kernel_rfl) ?_
      refine withFrP (N := 36) rfl ?_
      intro f0 F0 hff
      have e0 : f0 0 = Value.pointer (some ⟨hb, 0, none⟩) := hff 0
      have e1 : f0 1 = Value.int .i64 r := hff 1
      have e9 : f0 9 = Value.pointer (some ⟨bx, 0, none⟩) := hff 9
      clear hff
      have HCC : (fun wq => Below X.heap.size X wq) (({ X with drawn := X.drawn + 1 } : World)) := (Below.drew (Below.refl X.heap.size X))
      have VH : ∀ wr, Below X.heap.size X wr → Vw hb mb me M L wr := fun wr hw => ⟨HH.blk.below hw HH.blk.lt, HH.map.same (hw.block mb HH.map.lt)⟩
      have VB : ∀ wr, Below X.heap.size X wr → VAt wr bx 0 e := fun wr hw => HVB.keep (hw.block bx HVB.lt)
      have HC2 : (fun wq => Below X.heap.size X wq) (({ X with drawn := X.drawn + 1 } : World).alloc (.cells #[.string ⟨#[]⟩, .int .i64 0, .int .i64 0, .int .i64 0, .int .i64 0, .int .i64 0, .int .i64 0] 105)) := HCC.alloc (Nat.le_refl _) _
      have HC3 : (fun wq => Below X.heap.size X wq) (({ X with drawn := X.drawn + 1 } : World).alloc (.cells #[.string ⟨l0.n.toArray⟩, .int .i64 l0.c, .int .i64 l0.rc, .int .i64 l0.v, .int .i64 l0.d, .int .i64 l0.u, .int .i64 l0.h] 105)) := HCC.alloc (Nat.le_refl _) _
      refine lyp F0 rfl HCC rfl (by omega) (wanted_none rfl) (v := Value.pointer (some ⟨hb, 0, none⟩)) (fun wr hwr => by simp only [execOp, (F0.eval 0 (by omega)).trans (show _ = Value.pointer (some ⟨hb, 0, none⟩) from by simp [upd, e0, e1, e9])]; first | rfl | simp [go_sem]) fun F1 => ?_
      refine lyp F1 rfl HCC rfl (by omega) (wanted_none rfl) (v := Value.pointer (some ⟨hb, 0, none⟩)) (fun wr hwr => by simp only [execOp, (F1.eval 19 (by omega)).trans (show _ = Value.pointer (some ⟨hb, 0, none⟩) from by simp [upd, e0, e1, e9])]; simp [go_sem]) fun F2 => ?_
      refine lyp F2 rfl HCC rfl (by omega) (wanted_none rfl) (v := Value.pointer (some ⟨hb, 2, none⟩)) (fun wr hwr => by simp only [execOp, (F2.eval 20 (by omega)).trans (show _ = Value.pointer (some ⟨hb, 0, none⟩) from by simp [upd, e0, e1, e9])]; simp [go_sem]) fun F3 => ?_
      refine lyp F3 rfl HCC rfl (by omega) (wanted_none rfl) (v := Value.map (some mb)) (fun wr hwr => by simp only [execOp, (F3.eval 21 (by omega)).trans (show _ = Value.pointer (some ⟨hb, 2, none⟩) from by simp [upd, e0, e1, e9])]; simp [go_sem, (VH wr hwr).c2]) fun F4 => ?_
      refine lyp F4 rfl HCC rfl (by omega) (wanted_none rfl) (v := Value.int .i64 r) (fun wr hwr => by simp only [execOp, (F4.eval 1 (by omega)).trans (show _ = Value.int .i64 r from by simp [upd, e0, e1, e9])]; first | rfl | simp [go_sem]) fun F5 => ?_
      refine lyp F5 rfl HCC rfl (by omega) (wanted_none rfl) (v := Value.pointer (some ⟨bx, 0, none⟩)) (fun wr hwr => by simp only [execOp, (F5.eval 9 (by omega)).trans (show _ = Value.pointer (some ⟨bx, 0, none⟩) from by simp [upd, e0, e1, e9])]; simp [go_sem]) fun F6 => ?_
      refine lyp F6 rfl HCC rfl (by omega) (wanted_none rfl) (v := Value.string ⟨e.n.toArray⟩) (fun wr hwr => by simp only [execOp, (F6.eval 24 (by omega)).trans (show _ = Value.pointer (some ⟨bx, 0, none⟩) from by simp [upd, e0, e1, e9])]; simp [go_sem, (VB wr hwr).c0]) fun F7 => ?_
      refine lyp F7 rfl HCC rfl (by omega) (wanted_none rfl) (v := Value.agg #[.int .i64 r, .string ⟨e.n.toArray⟩]) (fun wr hwr => by simp only [execOp, (F7.eval 23 (by omega)).trans (show _ = Value.int .i64 r from by simp [upd, e0, e1, e9]), (F7.eval 25 (by omega)).trans (show _ = Value.string ⟨e.n.toArray⟩ from by simp [upd, e0, e1, e9])]; simp [go_sem, Act.eval]) fun F8 => ?_
      refine lyp F8 rfl HCC rfl (by omega) (wanted_none rfl) (v := Value.tuple #[.agg #[.string ⟨l0.n.toArray⟩, .int .i64 l0.c, .int .i64 l0.rc, .int .i64 l0.v, .int .i64 l0.d, .int .i64 l0.u, .int .i64 l0.h], .bool is0]) (fun wr hwr => by simp only [execOp, (F8.eval 22 (by omega)).trans (show _ = Value.map (some mb) from by simp [upd, e0, e1, e9]), (F8.eval 26 (by omega)).trans (show _ = Value.agg #[.int .i64 r, .string ⟨e.n.toArray⟩] from by simp [upd, e0, e1, e9])]; simp [go_sem, HLK wr (VH wr hwr)]) fun F9 => ?_
      refine lyp F9 rfl HCC rfl (by omega) (wanted_none rfl) (v := Value.tuple #[.agg #[.string ⟨l0.n.toArray⟩, .int .i64 l0.c, .int .i64 l0.rc, .int .i64 l0.v, .int .i64 l0.d, .int .i64 l0.u, .int .i64 l0.h], .bool is0]) (fun wr hwr => by simp only [execOp, (F9.eval 27 (by omega)).trans (show _ = Value.tuple #[.agg #[.string ⟨l0.n.toArray⟩, .int .i64 l0.c, .int .i64 l0.rc, .int .i64 l0.v, .int .i64 l0.d, .int .i64 l0.u, .int .i64 l0.h], .bool is0] from by simp [upd, e0, e1, e9])]; first | rfl | simp [go_sem]) fun F10 => ?_
      refine lyp F10 rfl HCC rfl (by omega) (wanted_none rfl) (v := Value.agg #[.string ⟨l0.n.toArray⟩, .int .i64 l0.c, .int .i64 l0.rc, .int .i64 l0.v, .int .i64 l0.d, .int .i64 l0.u, .int .i64 l0.h]) (fun wr hwr => by simp only [execOp, (F10.eval 18 (by omega)).trans (show _ = Value.tuple #[.agg #[.string ⟨l0.n.toArray⟩, .int .i64 l0.c, .int .i64 l0.rc, .int .i64 l0.v, .int .i64 l0.d, .int .i64 l0.u, .int .i64 l0.h], .bool is0] from by simp [upd, e0, e1, e9])]; simp [go_sem]) fun F11 => ?_
      refine lyp F11 rfl HCC rfl (by omega) (wanted_none rfl) (v := Value.bool is0) (fun wr hwr => by simp only [execOp, (F11.eval 18 (by omega)).trans (show _ = Value.tuple #[.agg #[.string ⟨l0.n.toArray⟩, .int .i64 l0.c, .int .i64 l0.rc, .int .i64 l0.v, .int .i64 l0.d, .int .i64 l0.u, .int .i64 l0.h], .bool is0] from by simp [upd, e0, e1, e9])]; simp [go_sem]) fun F12 => ?_
      refine lep F12 rfl HCC rfl (by omega) (wanted_none rfl) (v := Value.pointer (some ⟨X.heap.size, 0, none⟩)) (w1 := ({ X with drawn := X.drawn + 1 } : World).alloc (.cells #[.string ⟨#[]⟩, .int .i64 0, .int .i64 0, .int .i64 0, .int .i64 0, .int .i64 0, .int .i64 0] 105)) (by simp only [execOp]; simp [go_sem, zero46, zed, viewV]) fun F13 => ?_
      refine lst rfl HC2 rfl (wanted_none rfl) (w1 := ({ X with drawn := X.drawn + 1 } : World).alloc (.cells #[.string ⟨l0.n.toArray⟩, .int .i64 l0.c, .int .i64 l0.rc, .int .i64 l0.v, .int .i64 l0.d, .int .i64 l0.u, .int .i64 l0.h] 105)) (by simp only [execOp, (F13.eval 10 (by omega)).trans (show _ = Value.pointer (some ⟨X.heap.size, 0, none⟩) from by simp [upd, e0, e1, e9]), (F13.eval 28 (by omega)).trans (show _ = Value.agg #[.string ⟨l0.n.toArray⟩, .int .i64 l0.c, .int .i64 l0.rc, .int .i64 l0.v, .int .i64 l0.d, .int .i64 l0.u, .int .i64 l0.h] from by simp [upd, e0, e1, e9])]; simp [go_sem]) ?_
      refine lyp F13 rfl HC3 rfl (by omega) (wanted_none rfl) (v := Value.bool is0) (fun wr hwr => by simp only [execOp, (F13.eval 29 (by omega)).trans (show _ = Value.bool is0 from by simp [upd, e0, e1, e9])]; first | rfl | simp [go_sem]) fun F14 => ?_
      refine ⟨fun _ => HC3, ?_⟩
      refine hK _ _ ?_
      clear F0 F1 F2 F3 F4 F5 F6 F7 F8 F9 F10 F11 F12 F13 F14 e0 e1 e9 HCC VH VB HC2 HC3
      simp only [Act.put, List.setIfInBounds_toArray, List.set_cons_succ, List.set_cons_zero]
      have HB4 : Hid (Below w.heap.size w (({ X with drawn := X.drawn + 1 } : World).alloc (.cells #[.string ⟨l0.n.toArray⟩, .int .i64 l0.c, .int .i64 l0.rc, .int .i64 l0.v, .int .i64 l0.d, .int .i64 l0.u, .int .i64 l0.h] 105))) := HBX.out.trans (((Below.drew (Below.refl X.heap.size X)).alloc (Nat.le_refl _) _).mono HBX.out.size)
      clear HH HVB HLK HBL
      have hw : IntKind.i64.wrap ((s0 : Int) + 1) = ((s0 + 1 : Nat) : Int) := by rw [IntKind.wrap_i64]; omega
      cases is0
      · go_wp2_with fail
        go_roundw
        case rel => exact ⟨q + 1, by omega, by go_num, by first | rw [HST.out]; rfl | (rw [HST.out]; simp), HB4.out⟩
        case measure => simp [intOf]; omega
      · go_wp2_with fail
        go_roundw
        case rel => exact ⟨q + 1, by omega, by go_num, by rw [HST.out]; rfl, HB4.out⟩
        case measure => simp [intOf]; omega
    · have hqq : es.take q = es := List.take_of_length_le (by rw [HL.out]; omega)
      rw [hqq]
      have HB : Hid _ := hbel
      clear hbel hqq
      go_wp2_with fail
      go_ret
      exact ⟨rfl, HB.out⟩
end Go.Proofs.YtnphkmdanicemaaGreatDoor
namespace Go.Proofs.YtnphkmdanicemaaGreatDoor
open Go.RowKit Go.PlainAid Go.MapKept
set_option linter.unusedVariables false
set_option linter.unusedSimpArgs false
theorem fld3 (l : Ent) (w : World) : (Instr.field 105 (viewV l) 3).run Tryz.prog w = .ok (.int .i64 l.v) w := by
  unfold viewV
  first | kernel_rfl | simp [go_sem, Instr.field]
theorem fld4 (l : Ent) (w : World) : (Instr.field 105 (viewV l) 4).run Tryz.prog w = .ok (.agg #[.int .i64 l.d, .int .i64 l.u]) w := by
  unfold viewV
  first | kernel_rfl | simp [go_sem, Instr.field]
def takeStep (r : Int) (acc : List Ent × Nat) (e : Ent) : List Ent × Nat := if (lookD r e.n acc.1).v < e.v then (putE { e with r := r } acc.1, acc.2 + 1) else acc
def takeF (r : Int) (L : List Ent) (es : List Ent) : List Ent × Nat := es.foldl (takeStep r) (L, 0)
theorem takeF_more {r : Int} {L es : List Ent} {q : Nat} {e : Ent} (h : es[q]? = some e) : takeF r L (es.take (q + 1)) = takeStep r (takeF r L (es.take q)) e := by
  unfold takeF
  rw [List.take_add_one, h, List.foldl_append]
  rfl
theorem takeF_le (r : Int) (L : List Ent) : ∀ (q : Nat) (es : List Ent), (takeF r L (es.take q)).2 ≤ q
  | 0, es => by simp [takeF]
  | q + 1, es => by
    have ih := takeF_le r L q es
    cases h : es[q]? with
    | none => rw [List.take_add_one, h]; simp; omega
    | some e =>
      rw [takeF_more h]
      unfold takeStep
      split
      · simp; omega
      · omega
def takeCode (me n r : Int) (L es : List Ent) : Int := if r < 0 ∨ n ≤ r ∨ r = me then 3 else if 64 < es.length then 2 else if dgB es = false then 1 else if 64 < cntR r L + strangeC r L es then 102 else 0
def takeNext (me n r : Int) (L es : List Ent) : List Ent × Nat := if takeCode me n r L es = 0 then takeF r L es else (L, 0)
set_option maxRecDepth 100000 in
set_option maxHeartbeats 6400000 in
theorem take_any {hb mb : Nat} {me M : Int} {L : List Ent} (r : Int) (ao : Option Addr) (K cap : Nat) (es : List Ent) (w : World) (hV : Vw hb mb me M L w) (hL : L.length ≤ 100000) (hl : es.length = K) (hK : K ≤ maxLen) (hf : FromV w ao es) (hs : ∀ e ∈ es, e.sane) (hfm : ∀ b off, ao = some ⟨b, off, none⟩ → b ≠ mb) :
    Calls Tryz.prog 26 #[.pointer (some ⟨hb, 0, none⟩), .int .i64 r, .slice ao K cap] w fun q w' => q = .returned (.tuple #[.int .i64 ((takeNext me M r L es).2 : Nat), .int .i64 (takeCode me M r L es)]) ∧ Vw hb mb me M (takeNext me M r L es).1 w' ∧ Chg (fun k => k = mb) w w' := by
  have k0 := hV.c0
  have k1 := hV.c1
  have hmax : K ≤ 9223372036854775807 := by unfold maxLen at hK; omega
  have HL : Hid _ := hl
  have HF : Hid _ := hf
  have HS : Hid _ := hs
  have HV : Hid _ := hV
  have HFM : Hid _ := hfm
  clear hl hf hs hV hfm hK
  have HNO : Hid (∀ c, c ≠ 0 → takeCode me M r L es = c → takeNext me M r L es = (L, 0)) := fun c hc h => by unfold takeNext; rw [if_neg (by rw [h]; exact hc)]
  have HR : Hid (Chg (fun k => k = mb) w w) := Chg.refl _ _
  by_cases r0 : r < 0
  · have HC : Hid (takeCode me M r L es = 3) := show takeCode me M r L es = 3 from by unfold takeCode; rw [if_pos (Or.inl r0)]
    go_enter Tryz.func26, Tryz.ntmps26
    go_wp2_with fail
    go_ret2
    rw [HNO.out 3 (by decide) HC.out, HC.out]
    exact ⟨rfl, HV.out, HR.out⟩
  by_cases r1 : M ≤ r
  · have HC : Hid (takeCode me M r L es = 3) := show takeCode me M r L es = 3 from by unfold takeCode; rw [if_pos (Or.inr (Or.inl r1))]
    go_enter Tryz.func26, Tryz.ntmps26
    go_wp2_with fail
    go_ret2
    rw [HNO.out 3 (by decide) HC.out, HC.out]
    exact ⟨rfl, HV.out, HR.out⟩
  by_cases r2 : r = me
  · have HC : Hid (takeCode me M r L es = 3) := show takeCode me M r L es = 3 from by unfold takeCode; rw [if_pos (Or.inr (Or.inr r2))]
    have r2b : (r == me) = true := by simpa using r2
    clear r2
    go_enter Tryz.func26, Tryz.ntmps26
    go_wp2_with fail
    go_ret2
    rw [HNO.out 3 (by decide) HC.out, HC.out]
    exact ⟨rfl, HV.out, HR.out⟩
  have HN3 : Hid (¬ (r < 0 ∨ M ≤ r ∨ r = me)) := fun h => by rcases h with h | h | h; exact r0 h; exact r1 h; exact r2 h
  have r2b : (r == me) = false := by simpa using r2
  clear r2
  by_cases hlong : 64 < K
  · have HC : Hid (takeCode me M r L es = 2) := show takeCode me M r L es = 2 from by unfold takeCode; rw [if_neg HN3.out, if_pos (by rw [HL.out]; exact hlong)]
    go_enter Tryz.func26, Tryz.ntmps26
    go_wp2_with fail
    go_ret2
    rw [HNO.out 2 (by decide) HC.out, HC.out]
    exact ⟨rfl, HV.out, HR.out⟩
  have HRD : Hid _ := rightDigest_any ao K cap es w HL.out (by omega) HF.out HS.out
  go_enter Tryz.func26, Tryz.ntmps26
  go_wp2_with fail
  refine Calls.mono HRD.out ?_
  rintro e w1 ⟨rfl, hb1⟩
  have HV1 : Hid _ := HV.out.more hb1
  have HF1 : Hid (FromV w1 ao es) := FromV.all (es := es) HF.out hb1
  have HB1 : Hid _ := hb1
  clear hb1 HRD k0 k1
  cases hdg : dgB es with
  | false =>
    have HC : Hid (takeCode me M r L es = 1) := show takeCode me M r L es = 1 from by unfold takeCode; rw [if_neg HN3.out, if_neg (by rw [HL.out]; exact hlong), if_pos hdg]
    clear hdg
    go_wp2_with fail
    go_ret2
    rw [HNO.out 1 (by decide) HC.out, HC.out]
    exact ⟨rfl, HV1.out, Chg.ofBelow _ HB1.out⟩
  | true =>
    have HDG : Hid _ := hdg
    clear hdg
    have HSP : Hid _ := spoken_any r w1 HV1.out hL
    go_wp2_with fail
    refine Calls.mono HSP.out ?_
    rintro e w2 ⟨rfl, hb2⟩
    have HV2 : Hid _ := HV1.out.more hb2
    have HF2 : Hid (FromV w2 ao es) := FromV.all (es := es) HF1.out hb2
    have HB2 : Hid (Below w.heap.size w w2) := HB1.out.trans (hb2.mono HB1.out.size)
    have HST : Hid _ := strange_any r ao K cap es w2 HV2.out HL.out (by omega) HF2.out
    clear hb2 HSP HV1 HF1
    go_wp2_with fail
    refine Calls.mono HST.out ?_
    rintro e w3 ⟨rfl, hb3⟩
    have HV3 : Hid _ := HV2.out.more hb3
    have HF3 : Hid (FromV w3 ao es) := FromV.all (es := es) HF2.out hb3
    have HB3 : Hid (Below w.heap.size w w3) := HB2.out.trans (hb3.mono HB2.out.size)
    have hc1 := cntR_le r L
    have hc2 := strangeC_le r L es
    have hl' := HL.out
    have hw : IntKind.i64.wrap (((cntR r L : Nat) : Int) + ((strangeC r L es : Nat) : Int)) = ((cntR r L + strangeC r L es : Nat) : Int) := by rw [IntKind.wrap_i64]; omega
    clear hb3 HST HV2 HF2 hl'
    by_cases hmore : 64 < cntR r L + strangeC r L es
    · have HC : Hid (takeCode me M r L es = 102) := show takeCode me M r L es = 102 from by unfold takeCode; rw [if_neg HN3.out, if_neg (by rw [HL.out]; exact hlong), if_neg (by rw [HDG.out]; simp), if_pos hmore]
      have hm2 : (64 : Int) < ((cntR r L + strangeC r L es : Nat) : Int) := by omega
      generalize cntR r L + strangeC r L es = tot at *
      clear hmore
      go_wp2_with fail
      go_ret2
      rw [HNO.out 102 (by decide) HC.out, HC.out]
      exact ⟨rfl, HV3.out, Chg.ofBelow _ HB3.out⟩
    · have HC : Hid (takeCode me M r L es = 0) := show takeCode me M r L es = 0 from by unfold takeCode; rw [if_neg HN3.out, if_neg (by rw [HL.out]; exact hlong), if_neg (by rw [HDG.out]; simp), if_neg hmore]
      have HNX : Hid (takeNext me M r L es = takeF r L es) := show takeNext me M r L es = takeF r L es from by unfold takeNext; rw [if_pos HC.out]
      have hm2 : ¬ (64 : Int) < ((cntR r L + strangeC r L es : Nat) : Int) := by omega
      generalize cntR r L + strangeC r L es = tot at *
      clear hmore hc1 hc2
      go_wp2_with fail
      go_loopw [8, 50] (fun s i wr => ∃ q : Nat, q ≤ K ∧ i = .int .i64 q ∧ s = .int .i64 ((takeF r L (es.take q)).2 : Nat) ∧ Vw hb mb me M (takeF r L (es.take q)).1 wr ∧ Chg (fun k => k = mb) w wr) (fun _ i _ => K - (intOf i).toNat)
      case atStart => exact ⟨0, Nat.zero_le _, rfl, rfl, HV3.out, Chg.ofBelow _ HB3.out⟩
      case round =>
        obtain ⟨q, hq, rfl, rfl, hVq, hcq⟩ := hrel
        by_cases hlt : q < K
        · obtain ⟨e, he⟩ : ∃ e, es[q]? = some e := ⟨es[q]'(by rw [HL.out]; exact hlt), List.getElem?_eq_getElem _⟩
          have hnl := (HS.out e (List.mem_of_getElem? he)).n
          obtain ⟨b, off, rfl, hc⟩ := HF.out (by rw [HL.out]; omega)
          obtain ⟨d0, d1, d2, d3, d4, d5, d6⟩ := (hc q e he).keep (hcq.block b (hc q e he).lt (HFM.out b off rfl))
          have hmo := takeF_more (r := r) (L := L) he
          have hle := takeF_le r L q es
          obtain ⟨acc, hacc⟩ : ∃ acc, acc = takeF r L (es.take q) := ⟨_, rfl⟩
          rw [← hacc] at hmo hle hVq ⊢
          obtain ⟨l0, hl0⟩ : ∃ l0, l0 = lookD r e.n acc.1 := ⟨_, rfl⟩
          have HLK : ∀ wr, Vw hb mb me M acc.1 wr → (Instr.lookup 96 (.map (some mb)) (.agg #[.int .i64 r, .string ⟨e.n.toArray⟩]) false).run Tryz.prog wr = .ok (.agg #[.string ⟨l0.n.toArray⟩, .int .i64 l0.c, .int .i64 l0.rc, .int .i64 l0.v, .int .i64 l0.d, .int .i64 l0.u, .int .i64 l0.h]) wr := fun wr hw => by
            have := hw.map.look_ok r e.n false
            rw [← hl0] at this
            exact this
          have HMO : Hid _ := hmo
          have HL0 : Hid _ := hl0
          have HCQ : Hid _ := hcq
          have hgr : Below wr.heap.size wr (wr.alloc (.cells #[.string ⟨e.n.toArray⟩, .int .i64 e.c, .int .i64 e.rc, .int .i64 e.v, .int .i64 e.d, .int .i64 e.u, .int .i64 e.h] 105)) := (Below.refl _ _).alloc (Nat.le_refl _) _
          have HVB := box_cells (view_box e wr)
          have HH := hVq.more hgr
          have HCX : Hid (Chg (fun k => k = mb) w (wr.alloc (.cells #[.string ⟨e.n.toArray⟩, .int .i64 e.c, .int .i64 e.rc, .int .i64 e.v, .int .i64 e.d, .int .i64 e.u, .int .i64 e.h] 105))) := hcq.trans (Chg.ofBelow (fun k => k = mb) hgr) (fun _ _ e => e)
          clear hl0 he hc hcq hgr hVq hacc hmo HV3 HF3
          go_wp2_with fail
          clear d0 d1 d2 d3 d4 d5 d6
          generalize wr.alloc (.cells #[.string ⟨e.n.toArray⟩, .int .i64 e.c, .int .i64 e.rc, .int .i64 e.v, .int .i64 e.d, .int .i64 e.u, .int .i64 e.h] 105) = X at *
          generalize wr.heap.size = bx at *
          by_cases hv : l0.v < e.v
          · have hvv : l0.v < e.v := hv
            rename_i K hK
            try rw [show ∀ a : Act, a.put none undef = a from fun _ => rfl]
            refine wp_region_mix (fun wq => Below X.heap.size X wq) (fun i => i == 99) 99 (by kernel_rfl) rfl (by kernel_rfl) (by kernel_rfl) (by kernel_rfl) ?_
            refine withFrP (N := 75) rfl ?_
            intro f0 F0 hff
            have e0 : f0 0 = Value.pointer (some ⟨hb, 0, none⟩) := hff 0
            have e1 : f0 1 = Value.int .i64 r := hff 1
            have e10 : f0 10 = Value.pointer (some ⟨bx, 0, none⟩) := hff 10
            clear hff
            have HCC : (fun wq => Below X.heap.size X wq) (({ X with drawn := X.drawn + 1 } : World)) := (Below.drew (Below.refl X.heap.size X))
            have VH : ∀ wr, Below X.heap.size X wr → Vw hb mb me M acc.1 wr := fun wr hw => ⟨HH.blk.below hw HH.blk.lt, HH.map.same (hw.block mb HH.map.lt)⟩
            have VB : ∀ wr, Below X.heap.size X wr → VAt wr bx 0 e := fun wr hw => HVB.keep (hw.block bx HVB.lt)
            refine lyp F0 rfl HCC rfl (by omega) (wanted_none rfl) (v := Value.pointer (some ⟨bx, 3, none⟩)) (fun wr hwr => by simp only [execOp, (F0.eval 10 (by omega)).trans (show _ = Value.pointer (some ⟨bx, 0, none⟩) from by simp [upd, e0, e1, e10])]; simp [go_sem]) fun F1 => ?_
            refine lyp F1 rfl HCC rfl (by omega) (wanted_none rfl) (v := Value.int .i64 e.v) (fun wr hwr => by simp only [execOp, (F1.eval 54 (by omega)).trans (show _ = Value.pointer (some ⟨bx, 3, none⟩) from by simp [upd, e0, e1, e10])]; simp [go_sem, (VB wr hwr).c3]) fun F2 => ?_
            refine lyp F2 rfl HCC rfl (by omega) (wanted_none rfl) (v := Value.pointer (some ⟨hb, 0, none⟩)) (fun wr hwr => by simp only [execOp, (F2.eval 0 (by omega)).trans (show _ = Value.pointer (some ⟨hb, 0, none⟩) from by simp [upd, e0, e1, e10])]; first | rfl | simp [go_sem]) fun F3 => ?_
            refine lyp F3 rfl HCC rfl (by omega) (wanted_none rfl) (v := Value.pointer (some ⟨hb, 0, none⟩)) (fun wr hwr => by simp only [execOp, (F3.eval 56 (by omega)).trans (show _ = Value.pointer (some ⟨hb, 0, none⟩) from by simp [upd, e0, e1, e10])]; simp [go_sem]) fun F4 => ?_
            refine lyp F4 rfl HCC rfl (by omega) (wanted_none rfl) (v := Value.pointer (some ⟨hb, 2, none⟩)) (fun wr hwr => by simp only [execOp, (F4.eval 57 (by omega)).trans (show _ = Value.pointer (some ⟨hb, 0, none⟩) from by simp [upd, e0, e1, e10])]; simp [go_sem]) fun F5 => ?_
            refine lyp F5 rfl HCC rfl (by omega) (wanted_none rfl) (v := Value.map (some mb)) (fun wr hwr => by simp only [execOp, (F5.eval 58 (by omega)).trans (show _ = Value.pointer (some ⟨hb, 2, none⟩) from by simp [upd, e0, e1, e10])]; simp [go_sem, (VH wr hwr).c2]) fun F6 => ?_
            refine lyp F6 rfl HCC rfl (by omega) (wanted_none rfl) (v := Value.int .i64 r) (fun wr hwr => by simp only [execOp, (F6.eval 1 (by omega)).trans (show _ = Value.int .i64 r from by simp [upd, e0, e1, e10])]; first | rfl | simp [go_sem]) fun F7 => ?_
            refine lyp F7 rfl HCC rfl (by omega) (wanted_none rfl) (v := Value.pointer (some ⟨bx, 0, none⟩)) (fun wr hwr => by simp only [execOp, (F7.eval 10 (by omega)).trans (show _ = Value.pointer (some ⟨bx, 0, none⟩) from by simp [upd, e0, e1, e10])]; simp [go_sem]) fun F8 => ?_
            refine lyp F8 rfl HCC rfl (by omega) (wanted_none rfl) (v := Value.string ⟨e.n.toArray⟩) (fun wr hwr => by simp only [execOp, (F8.eval 61 (by omega)).trans (show _ = Value.pointer (some ⟨bx, 0, none⟩) from by simp [upd, e0, e1, e10])]; simp [go_sem, (VB wr hwr).c0]) fun F9 => ?_
            refine lyp F9 rfl HCC rfl (by omega) (wanted_none rfl) (v := Value.agg #[.int .i64 r, .string ⟨e.n.toArray⟩]) (fun wr hwr => by simp only [execOp, (F9.eval 60 (by omega)).trans (show _ = Value.int .i64 r from by simp [upd, e0, e1, e10]), (F9.eval 62 (by omega)).trans (show _ = Value.string ⟨e.n.toArray⟩ from by simp [upd, e0, e1, e10])]; simp [go_sem, Act.eval]) fun F10 => ?_
            refine lyp F10 rfl HCC rfl (by omega) (wanted_none rfl) (v := Value.agg #[.string ⟨l0.n.toArray⟩, .int .i64 l0.c, .int .i64 l0.rc, .int .i64 l0.v, .int .i64 l0.d, .int .i64 l0.u, .int .i64 l0.h]) (fun wr hwr => by simp only [execOp, (F10.eval 59 (by omega)).trans (show _ = Value.map (some mb) from by simp [upd, e0, e1, e10]), (F10.eval 63 (by omega)).trans (show _ = Value.agg #[.int .i64 r, .string ⟨e.n.toArray⟩] from by simp [upd, e0, e1, e10])]; simp [go_sem, HLK wr (VH wr hwr)]) fun F11 => ?_
            refine lyp F11 rfl HCC rfl (by omega) (wanted_none rfl) (v := Value.int .i64 l0.v) (fun wr hwr => by simp only [execOp, (F11.eval 64 (by omega)).trans (show _ = Value.agg #[.string ⟨l0.n.toArray⟩, .int .i64 l0.c, .int .i64 l0.rc, .int .i64 l0.v, .int .i64 l0.d, .int .i64 l0.u, .int .i64 l0.h] from by simp [upd, e0, e1, e10])]; simp [go_sem, show (Instr.field 105 (.agg #[.string ⟨l0.n.toArray⟩, .int .i64 l0.c, .int .i64 l0.rc, .int .i64 l0.v, .int .i64 l0.d, .int .i64 l0.u, .int .i64 l0.h]) 3).run Tryz.prog wr = .ok (.int .i64 l0.v) wr from fld3 l0 wr]) fun F12 => ?_
            refine lyp F12 rfl HCC rfl (by omega) (wanted_none rfl) (v := Value.bool true) (fun wr hwr => by simp only [execOp, (F12.eval 55 (by omega)).trans (show _ = Value.int .i64 e.v from by simp [upd, e0, e1, e10]), (F12.eval 65 (by omega)).trans (show _ = Value.int .i64 l0.v from by simp [upd, e0, e1, e10])]; simp [go_sem, Act.eval, hvv]) fun F13 => ?_
            refine ⟨fun _ => HCC, ?_⟩
            refine hK _ _ ?_
            clear F0 F1 F2 F3 F4 F5 F6 F7 F8 F9 F10 F11 F12 F13 e0 e1 e10 VH VB
            simp only [Act.put, List.setIfInBounds_toArray, List.set_cons_succ, List.set_cons_zero]
            have HSE : Hid (takeStep r acc e = (putE { e with r := r } acc.1, acc.2 + 1)) := show takeStep r acc e = _ from by unfold takeStep; rw [← HL0.out, if_pos hv]
            have HK0 : Hid _ := keep_any r e ({ X with drawn := X.drawn + 1 } : World) ⟨show Blk _ hb _ 98 from HH.blk, HH.map.same rfl⟩ hnl
            obtain ⟨k0, k1, k2, k3, k4, k5, k6⟩ := (HVB.keep (show ({ X with drawn := X.drawn + 1 } : World).heap[bx]? = X.heap[bx]? from rfl))
            have HCX2 : Hid (Chg (fun k => k = mb) w ({ X with drawn := X.drawn + 1 } : World)) := HCX.out.drewN 1
            clear HH HVB HLK HCX hv hvv HCC
            generalize ({ X with drawn := X.drawn + 1 } : World) = X2 at *
            simp only [Nat.zero_add] at k0 k1 k2 k3 k4 k5 k6
            have hw9 : IntKind.i64.wrap ((acc.2 : Int) + 1) = ((acc.2 + 1 : Nat) : Int) := by rw [IntKind.wrap_i64]; omega
            go_wp2_with fail
            refine Calls.mono HK0.out ?_
            rintro e w9 ⟨rfl, hV9, hc9⟩
            have HV9 : Hid _ := hV9
            have HC9 : Hid (Chg (fun k => k = mb) w w9) := HCX2.out.trans hc9 (fun _ _ e => e)
            clear hV9 hc9 HK0 HCX2
            go_wp2_with fail
            go_roundw
            case rel => exact ⟨q + 1, by omega, by go_num, by rw [HMO.out, HSE.out]; exact val_i64 (by simp), by rw [HMO.out, HSE.out]; exact HV9.out, HC9.out⟩
            case measure => simp [intOf]; omega
          · have hvv : ¬ l0.v < e.v := hv
            rename_i K hK
            try rw [show ∀ a : Act, a.put none undef = a from fun _ => rfl]
            refine wp_region_mix (fun wq => Below X.heap.size X wq) (fun i => i == 99) 99 (by kernel_rfl) rfl (by kernel_rfl) (by kernel_rfl) (by kernel_rfl) ?_
            refine withFrP (N := 75) rfl ?_
            intro f0 F0 hff
            have e0 : f0 0 = Value.pointer (some ⟨hb, 0, none⟩) := hff 0
            have e1 : f0 1 = Value.int .i64 r := hff 1
            have e10 : f0 10 = Value.pointer (some ⟨bx, 0, none⟩) := hff 10
            clear hff
            have HCC : (fun wq => Below X.heap.size X wq) (({ X with drawn := X.drawn + 1 } : World)) := (Below.drew (Below.refl X.heap.size X))
            have VH : ∀ wr, Below X.heap.size X wr → Vw hb mb me M acc.1 wr := fun wr hw => ⟨HH.blk.below hw HH.blk.lt, HH.map.same (hw.block mb HH.map.lt)⟩
            have VB : ∀ wr, Below X.heap.size X wr → VAt wr bx 0 e := fun wr hw => HVB.keep (hw.block bx HVB.lt)
            refine lyp F0 rfl HCC rfl (by omega) (wanted_none rfl) (v := Value.pointer (some ⟨bx, 3, none⟩)) (fun wr hwr => by simp only [execOp, (F0.eval 10 (by omega)).trans (show _ = Value.pointer (some ⟨bx, 0, none⟩) from by simp [upd, e0, e1, e10])]; simp [go_sem]) fun F1 => ?_
            refine lyp F1 rfl HCC rfl (by omega) (wanted_none rfl) (v := Value.int .i64 e.v) (fun wr hwr => by simp only [execOp, (F1.eval 54 (by omega)).trans (show _ = Value.pointer (some ⟨bx, 3, none⟩) from by simp [upd, e0, e1, e10])]; simp [go_sem, (VB wr hwr).c3]) fun F2 => ?_
            refine lyp F2 rfl HCC rfl (by omega) (wanted_none rfl) (v := Value.pointer (some ⟨hb, 0, none⟩)) (fun wr hwr => by simp only [execOp, (F2.eval 0 (by omega)).trans (show _ = Value.pointer (some ⟨hb, 0, none⟩) from by simp [upd, e0, e1, e10])]; first | rfl | simp [go_sem]) fun F3 => ?_
            refine lyp F3 rfl HCC rfl (by omega) (wanted_none rfl) (v := Value.pointer (some ⟨hb, 0, none⟩)) (fun wr hwr => by simp only [execOp, (F3.eval 56 (by omega)).trans (show _ = Value.pointer (some ⟨hb, 0, none⟩) from by simp [upd, e0, e1, e10])]; simp [go_sem]) fun F4 => ?_
            refine lyp F4 rfl HCC rfl (by omega) (wanted_none rfl) (v := Value.pointer (some ⟨hb, 2, none⟩)) (fun wr hwr => by simp only [execOp, (F4.eval 57 (by omega)).trans (show _ = Value.pointer (some ⟨hb, 0, none⟩) from by simp [upd, e0, e1, e10])]; simp [go_sem]) fun F5 => ?_
            refine lyp F5 rfl HCC rfl (by omega) (wanted_none rfl) (v := Value.map (some mb)) (fun wr hwr => by simp only [execOp, (F5.eval 58 (by omega)).trans (show _ = Value.pointer (some ⟨hb, 2, none⟩) from by simp [upd, e0, e1, e10])]; simp [go_sem, (VH wr hwr).c2]) fun F6 => ?_
            refine lyp F6 rfl HCC rfl (by omega) (wanted_none rfl) (v := Value.int .i64 r) (fun wr hwr => by simp only [execOp, (F6.eval 1 (by omega)).trans (show _ = Value.int .i64 r from by simp [upd, e0, e1, e10])]; first | rfl | simp [go_sem]) fun F7 => ?_
            refine lyp F7 rfl HCC rfl (by omega) (wanted_none rfl) (v := Value.pointer (some ⟨bx, 0, none⟩)) (fun wr hwr => by simp only [execOp, (F7.eval 10 (by omega)).trans (show _ = Value.pointer (some ⟨bx, 0, none⟩) from by simp [upd, e0, e1, e10])]; simp [go_sem]) fun F8 => ?_
            refine lyp F8 rfl HCC rfl (by omega) (wanted_none rfl) (v := Value.string ⟨e.n.toArray⟩) (fun wr hwr => by simp only [execOp, (F8.eval 61 (by omega)).trans (show _ = Value.pointer (some ⟨bx, 0, none⟩) from by simp [upd, e0, e1, e10])]; simp [go_sem, (VB wr hwr).c0]) fun F9 => ?_
            refine lyp F9 rfl HCC rfl (by omega) (wanted_none rfl) (v := Value.agg #[.int .i64 r, .string ⟨e.n.toArray⟩]) (fun wr hwr => by simp only [execOp, (F9.eval 60 (by omega)).trans (show _ = Value.int .i64 r from by simp [upd, e0, e1, e10]), (F9.eval 62 (by omega)).trans (show _ = Value.string ⟨e.n.toArray⟩ from by simp [upd, e0, e1, e10])]; simp [go_sem, Act.eval]) fun F10 => ?_
            refine lyp F10 rfl HCC rfl (by omega) (wanted_none rfl) (v := Value.agg #[.string ⟨l0.n.toArray⟩, .int .i64 l0.c, .int .i64 l0.rc, .int .i64 l0.v, .int .i64 l0.d, .int .i64 l0.u, .int .i64 l0.h]) (fun wr hwr => by simp only [execOp, (F10.eval 59 (by omega)).trans (show _ = Value.map (some mb) from by simp [upd, e0, e1, e10]), (F10.eval 63 (by omega)).trans (show _ = Value.agg #[.int .i64 r, .string ⟨e.n.toArray⟩] from by simp [upd, e0, e1, e10])]; simp [go_sem, HLK wr (VH wr hwr)]) fun F11 => ?_
            refine lyp F11 rfl HCC rfl (by omega) (wanted_none rfl) (v := Value.int .i64 l0.v) (fun wr hwr => by simp only [execOp, (F11.eval 64 (by omega)).trans (show _ = Value.agg #[.string ⟨l0.n.toArray⟩, .int .i64 l0.c, .int .i64 l0.rc, .int .i64 l0.v, .int .i64 l0.d, .int .i64 l0.u, .int .i64 l0.h] from by simp [upd, e0, e1, e10])]; simp [go_sem, show (Instr.field 105 (.agg #[.string ⟨l0.n.toArray⟩, .int .i64 l0.c, .int .i64 l0.rc, .int .i64 l0.v, .int .i64 l0.d, .int .i64 l0.u, .int .i64 l0.h]) 3).run Tryz.prog wr = .ok (.int .i64 l0.v) wr from fld3 l0 wr]) fun F12 => ?_
            refine lyp F12 rfl HCC rfl (by omega) (wanted_none rfl) (v := Value.bool false) (fun wr hwr => by simp only [execOp, (F12.eval 55 (by omega)).trans (show _ = Value.int .i64 e.v from by simp [upd, e0, e1, e10]), (F12.eval 65 (by omega)).trans (show _ = Value.int .i64 l0.v from by simp [upd, e0, e1, e10])]; simp [go_sem, Act.eval, hvv]) fun F13 => ?_
            refine ⟨fun _ => HCC, ?_⟩
            refine hK _ _ ?_
            clear F0 F1 F2 F3 F4 F5 F6 F7 F8 F9 F10 F11 F12 F13 e0 e1 e10 VH VB
            simp only [Act.put, List.setIfInBounds_toArray, List.set_cons_succ, List.set_cons_zero]
            have HSE : Hid (takeStep r acc e = acc) := show takeStep r acc e = acc from by unfold takeStep; rw [← HL0.out, if_neg hv]
            have HV9 : Hid (Vw hb mb me M acc.1 ({ X with drawn := X.drawn + 1 } : World)) := ⟨show Blk _ hb _ 98 from HH.blk, HH.map.same rfl⟩
            have HCX2 : Hid (Chg (fun k => k = mb) w ({ X with drawn := X.drawn + 1 } : World)) := HCX.out.drewN 1
            clear HH HVB HLK HCX hv hvv HCC
            generalize ({ X with drawn := X.drawn + 1 } : World) = X2 at *
            go_wp2_with fail
            go_roundw
            case rel => exact ⟨q + 1, by omega, by go_num, by rw [HMO.out, HSE.out], by rw [HMO.out, HSE.out]; exact HV9.out, HCX2.out⟩
            case measure => simp [intOf]; omega
        · have hqq : es.take q = es := List.take_of_length_le (by rw [HL.out]; omega)
          rw [hqq] at hVq ⊢
          have HB : Hid _ := hVq
          have HCQ : Hid _ := hcq
          clear hVq hcq hqq
          go_wp2_with fail
          go_ret2
          rw [HNX.out, HC.out]
          exact ⟨rfl, HB.out, HCQ.out⟩
end Go.Proofs.YtnphkmdanicemaaGreatDoor
