import Derived.Test.YtnphkmdanicemaaGreatDoorVTl
import Derived.Test.YtnphkmdanicemaaGreatDoorVRf
namespace Go.Proofs.YtnphkmdanicemaaGreatDoor
open Go.RowKit Go.PlainAid Go.MapKept
set_option linter.unusedVariables false
set_option linter.unusedSimpArgs false
set_option maxRecDepth 100000 in
set_option maxHeartbeats 6400000 in
theorem tell_own {hb mb : Nat} {me M : Int} {L : List Ent} (n : List UInt8) (c rc d u h : Int) (w : World) (hV : Vw hb mb me M L w) (hL : L.length ≤ 100000) (hs : (Ent.mk me n c rc 1 d u h).sane) (hv : ∀ e ∈ L, e.r = me → 1 ≤ e.v ∧ e.v ≤ 1000000) :
    Calls Tryz.prog 24 #[.pointer (some ⟨hb, 0, none⟩), .string ⟨n.toArray⟩, .int .i64 c, .int .i64 rc, .agg #[.int .i64 d, .int .i64 u], .int .i64 h] w fun q w' => q = .returned (.int .i64 (tellCode me L ⟨me, n, c, rc, 1, d, u, h⟩)) ∧ Vw hb mb me M (tellNext me L ⟨me, n, c, rc, 1, d, u, h⟩) w' ∧ Chg (fun k => k = mb) w w' := by
  obtain ⟨e1, he1⟩ : ∃ e : Ent, e = ⟨me, n, c, rc, 1, d, u, h⟩ := ⟨_, rfl⟩
  have HV0 : Hid _ := hV
  have HRA : Hid (∀ w, _) := fun w => right_any ⟨me, n, c, rc, 1, d, u, h⟩ w hs
  have HVV : Hid _ := hv
  have hnl := hs.n
  simp only at hnl
  clear hV hv hs
  go_enter Tryz.func24, Tryz.ntmps24
  go_wp2_with fail
  refine Calls.mono (HRA.out _) ?_
  rintro e w2 ⟨rfl, hb2⟩
  have hg0 : Below w.heap.size w ((w.alloc (.cells #[.int .i64 d, .int .i64 u] 37)).alloc (.cells #[.string ⟨n.toArray⟩, .int .i64 c, .int .i64 rc, .int .i64 (1), .int .i64 d, .int .i64 u, .int .i64 h] 105)) := ((Below.refl _ _).alloc (Nat.le_refl _) _).alloc (by simp) _
  have hbx0 : Blk ((w.alloc (.cells #[.int .i64 d, .int .i64 u] 37)).alloc (.cells #[.string ⟨n.toArray⟩, .int .i64 c, .int .i64 rc, .int .i64 (1), .int .i64 d, .int .i64 u, .int .i64 h] 105)) (w.heap.size + 1) #[.string ⟨n.toArray⟩, .int .i64 c, .int .i64 rc, .int .i64 (1), .int .i64 d, .int .i64 u, .int .i64 h] 105 := by
    have := heap_alloc_new (w.alloc (.cells #[.int .i64 d, .int .i64 u] 37)) (.cells #[.string ⟨n.toArray⟩, .int .i64 c, .int .i64 rc, .int .i64 (1), .int .i64 d, .int .i64 u, .int .i64 h] 105)
    rw [World.size_alloc] at this
    exact this
  have hbw2 : Below w.heap.size w w2 := hg0.trans (hb2.mono hg0.size)
  have hB2 : Blk w2 (w.heap.size + 1) #[.string ⟨n.toArray⟩, .int .i64 c, .int .i64 rc, .int .i64 (1), .int .i64 d, .int .i64 u, .int .i64 h] 105 := hbx0.below hb2 hbx0.lt
  have hnb : w.heap.size ≤ w.heap.size + 1 := by omega
  have HH := HV0.out.more hbw2
  have HBW : Hid _ := hbw2
  clear hb2 hg0 hbx0 hbw2 HRA HV0
  cases hrt : Ent.right ⟨me, n, c, rc, 1, d, u, h⟩ with
  | false =>
    have HCO : Hid (tellCode me L ⟨me, n, c, rc, 1, d, u, h⟩ = 1) := show tellCode me L ⟨me, n, c, rc, 1, d, u, h⟩ = 1 from by unfold tellCode; rw [if_pos hrt]
    have HNX : Hid (tellNext me L ⟨me, n, c, rc, 1, d, u, h⟩ = L) := show tellNext me L ⟨me, n, c, rc, 1, d, u, h⟩ = L from by unfold tellNext; rw [if_pos hrt]
    have HHH : Hid _ := HH
    clear HH hB2 hrt
    go_wp2_with fail
    go_ret
    exact ⟨ret_i64 HCO.out.symm, by rw [HNX.out]; exact HHH.out, Chg.ofBelow _ HBW.out⟩
  | true =>
    have HRT : Hid _ := hrt
    clear hrt
    have HLE : Hid (∃ l0, l0 = lookD me n L) := ⟨_, rfl⟩
    obtain ⟨l0, hl0⟩ := HLE.out
    obtain ⟨is0, his0⟩ : ∃ b, b = (look me n L).isSome := ⟨_, rfl⟩
    have HLK : ∀ wr, Vw hb mb me M L wr → (Instr.lookup 96 (.map (some mb)) (.agg #[.int .i64 me, .string ⟨n.toArray⟩]) true).run Tryz.prog wr = .ok (.tuple #[.agg #[.string ⟨l0.n.toArray⟩, .int .i64 l0.c, .int .i64 l0.rc, .int .i64 l0.v, .int .i64 l0.d, .int .i64 l0.u, .int .i64 l0.h], .bool is0]) wr := fun wr hw => by
      have := hw.map.look_ok me n true
      rw [← hl0, ← his0] at this
      exact this
    have HL0 : Hid _ := hl0
    have HIS : Hid _ := his0
    clear hl0 his0 HLE
    obtain ⟨bx, hbx⟩ : ∃ bx, bx = w.heap.size + 1 := ⟨_, rfl⟩
    rw [← hbx] at hB2 ⊢
    have hbw : w.heap.size ≤ bx := by omega
    have HBXW : Hid _ := hbw
    clear hnb hbx hbw
    generalize w2 = X at *
    have hBX := hB2
    go_wp2_with fail
    rename_i K hK
    try rw [show ∀ a : Act, a.put none undef = a from fun _ => rfl]
    refine wp_region_mix (fun wq => Below X.heap.size X wq) (fun i => i == 14 || i == 15 || i == 99) 99 (by kernel_rfl) rfl (by kernel_rfl) (by kernel_rfl) (by kernel_rfl) ?_
    refine withFrP (N := 64) rfl ?_
    intro f0 F0 hff
    have e0 : f0 0 = Value.pointer (some ⟨hb, 0, none⟩) := hff 0
    have e1 : f0 1 = Value.string ⟨n.toArray⟩ := hff 1
    have e13 : f0 13 = Value.pointer (some ⟨bx, 0, none⟩) := hff 13
    clear hff
    have HCC : (fun wq => Below X.heap.size X wq) (({ X with drawn := X.drawn + 1 } : World)) := (Below.drew (Below.refl X.heap.size X))
    have VH : ∀ wr, Below X.heap.size X wr → Vw hb mb me M L wr := fun wr hw => ⟨HH.blk.below hw HH.blk.lt, HH.map.same (hw.block mb HH.map.lt)⟩
    have HC2 : (fun wq => Below X.heap.size X wq) (({ X with drawn := X.drawn + 1 } : World).alloc (.cells #[.string ⟨#[]⟩, .int .i64 0, .int .i64 0, .int .i64 0, .int .i64 0, .int .i64 0, .int .i64 0] 105)) := HCC.alloc (Nat.le_refl _) _
    have HC3 : (fun wq => Below X.heap.size X wq) (({ X with drawn := X.drawn + 1 } : World).alloc (.cells #[.string ⟨l0.n.toArray⟩, .int .i64 l0.c, .int .i64 l0.rc, .int .i64 l0.v, .int .i64 l0.d, .int .i64 l0.u, .int .i64 l0.h] 105)) := HCC.alloc (Nat.le_refl _) _
    refine lyp F0 rfl HCC rfl (by omega) (wanted_none rfl) (v := Value.pointer (some ⟨hb, 0, none⟩)) (fun wr hwr => by simp only [execOp, (F0.eval 0 (by omega)).trans (show _ = Value.pointer (some ⟨hb, 0, none⟩) from by simp [upd, e0, e1, e13])]; first | rfl | simp [go_sem]) fun F1 => ?_
    refine lyp F1 rfl HCC rfl (by omega) (wanted_none rfl) (v := Value.pointer (some ⟨hb, 0, none⟩)) (fun wr hwr => by simp only [execOp, (F1.eval 26 (by omega)).trans (show _ = Value.pointer (some ⟨hb, 0, none⟩) from by simp [upd, e0, e1, e13])]; simp [go_sem]) fun F2 => ?_
    refine lyp F2 rfl HCC rfl (by omega) (wanted_none rfl) (v := Value.pointer (some ⟨hb, 2, none⟩)) (fun wr hwr => by simp only [execOp, (F2.eval 27 (by omega)).trans (show _ = Value.pointer (some ⟨hb, 0, none⟩) from by simp [upd, e0, e1, e13])]; simp [go_sem]) fun F3 => ?_
    refine lyp F3 rfl HCC rfl (by omega) (wanted_none rfl) (v := Value.map (some mb)) (fun wr hwr => by simp only [execOp, (F3.eval 28 (by omega)).trans (show _ = Value.pointer (some ⟨hb, 2, none⟩) from by simp [upd, e0, e1, e13])]; simp [go_sem, (VH wr hwr).c2]) fun F4 => ?_
    refine lyp F4 rfl HCC rfl (by omega) (wanted_none rfl) (v := Value.pointer (some ⟨hb, 0, none⟩)) (fun wr hwr => by simp only [execOp, (F4.eval 0 (by omega)).trans (show _ = Value.pointer (some ⟨hb, 0, none⟩) from by simp [upd, e0, e1, e13])]; first | rfl | simp [go_sem]) fun F5 => ?_
    refine lyp F5 rfl HCC rfl (by omega) (wanted_none rfl) (v := Value.pointer (some ⟨hb, 0, none⟩)) (fun wr hwr => by simp only [execOp, (F5.eval 30 (by omega)).trans (show _ = Value.pointer (some ⟨hb, 0, none⟩) from by simp [upd, e0, e1, e13])]; simp [go_sem]) fun F6 => ?_
    refine lyp F6 rfl HCC rfl (by omega) (wanted_none rfl) (v := Value.pointer (some ⟨hb, 0, none⟩)) (fun wr hwr => by simp only [execOp, (F6.eval 31 (by omega)).trans (show _ = Value.pointer (some ⟨hb, 0, none⟩) from by simp [upd, e0, e1, e13])]; simp [go_sem]) fun F7 => ?_
    refine lyp F7 rfl HCC rfl (by omega) (wanted_none rfl) (v := Value.int .i64 me) (fun wr hwr => by simp only [execOp, (F7.eval 32 (by omega)).trans (show _ = Value.pointer (some ⟨hb, 0, none⟩) from by simp [upd, e0, e1, e13])]; simp [go_sem, (VH wr hwr).c0]) fun F8 => ?_
    refine lyp F8 rfl HCC rfl (by omega) (wanted_none rfl) (v := Value.string ⟨n.toArray⟩) (fun wr hwr => by simp only [execOp, (F8.eval 1 (by omega)).trans (show _ = Value.string ⟨n.toArray⟩ from by simp [upd, e0, e1, e13])]; first | rfl | simp [go_sem]) fun F9 => ?_
    refine lyp F9 rfl HCC rfl (by omega) (wanted_none rfl) (v := Value.agg #[.int .i64 me, .string ⟨n.toArray⟩]) (fun wr hwr => by simp only [execOp, (F9.eval 33 (by omega)).trans (show _ = Value.int .i64 me from by simp [upd, e0, e1, e13]), (F9.eval 34 (by omega)).trans (show _ = Value.string ⟨n.toArray⟩ from by simp [upd, e0, e1, e13])]; simp [go_sem, Act.eval]) fun F10 => ?_
    refine lyp F10 rfl HCC rfl (by omega) (wanted_none rfl) (v := Value.tuple #[.agg #[.string ⟨l0.n.toArray⟩, .int .i64 l0.c, .int .i64 l0.rc, .int .i64 l0.v, .int .i64 l0.d, .int .i64 l0.u, .int .i64 l0.h], .bool is0]) (fun wr hwr => by simp only [execOp, (F10.eval 29 (by omega)).trans (show _ = Value.map (some mb) from by simp [upd, e0, e1, e13]), (F10.eval 35 (by omega)).trans (show _ = Value.agg #[.int .i64 me, .string ⟨n.toArray⟩] from by simp [upd, e0, e1, e13])]; simp [go_sem, HLK wr (VH wr hwr)]) fun F11 => ?_
    refine lyp F11 rfl HCC rfl (by omega) (wanted_none rfl) (v := Value.tuple #[.agg #[.string ⟨l0.n.toArray⟩, .int .i64 l0.c, .int .i64 l0.rc, .int .i64 l0.v, .int .i64 l0.d, .int .i64 l0.u, .int .i64 l0.h], .bool is0]) (fun wr hwr => by simp only [execOp, (F11.eval 36 (by omega)).trans (show _ = Value.tuple #[.agg #[.string ⟨l0.n.toArray⟩, .int .i64 l0.c, .int .i64 l0.rc, .int .i64 l0.v, .int .i64 l0.d, .int .i64 l0.u, .int .i64 l0.h], .bool is0] from by simp [upd, e0, e1, e13])]; first | rfl | simp [go_sem]) fun F12 => ?_
    refine lyp F12 rfl HCC rfl (by omega) (wanted_none rfl) (v := Value.agg #[.string ⟨l0.n.toArray⟩, .int .i64 l0.c, .int .i64 l0.rc, .int .i64 l0.v, .int .i64 l0.d, .int .i64 l0.u, .int .i64 l0.h]) (fun wr hwr => by simp only [execOp, (F12.eval 25 (by omega)).trans (show _ = Value.tuple #[.agg #[.string ⟨l0.n.toArray⟩, .int .i64 l0.c, .int .i64 l0.rc, .int .i64 l0.v, .int .i64 l0.d, .int .i64 l0.u, .int .i64 l0.h], .bool is0] from by simp [upd, e0, e1, e13])]; simp [go_sem]) fun F13 => ?_
    refine lyp F13 rfl HCC rfl (by omega) (wanted_none rfl) (v := Value.bool is0) (fun wr hwr => by simp only [execOp, (F13.eval 25 (by omega)).trans (show _ = Value.tuple #[.agg #[.string ⟨l0.n.toArray⟩, .int .i64 l0.c, .int .i64 l0.rc, .int .i64 l0.v, .int .i64 l0.d, .int .i64 l0.u, .int .i64 l0.h], .bool is0] from by simp [upd, e0, e1, e13])]; simp [go_sem]) fun F14 => ?_
    refine lep F14 rfl HCC rfl (by omega) (wanted_none rfl) (v := Value.pointer (some ⟨X.heap.size, 0, none⟩)) (w1 := ({ X with drawn := X.drawn + 1 } : World).alloc (.cells #[.string ⟨#[]⟩, .int .i64 0, .int .i64 0, .int .i64 0, .int .i64 0, .int .i64 0, .int .i64 0] 105)) (by simp only [execOp]; simp [go_sem, zero46, zed, viewV]) fun F15 => ?_
    refine lst rfl HC2 rfl (wanted_none rfl) (w1 := ({ X with drawn := X.drawn + 1 } : World).alloc (.cells #[.string ⟨l0.n.toArray⟩, .int .i64 l0.c, .int .i64 l0.rc, .int .i64 l0.v, .int .i64 l0.d, .int .i64 l0.u, .int .i64 l0.h] 105)) (by simp only [execOp, (F15.eval 14 (by omega)).trans (show _ = Value.pointer (some ⟨X.heap.size, 0, none⟩) from by simp [upd, e0, e1, e13]), (F15.eval 37 (by omega)).trans (show _ = Value.agg #[.string ⟨l0.n.toArray⟩, .int .i64 l0.c, .int .i64 l0.rc, .int .i64 l0.v, .int .i64 l0.d, .int .i64 l0.u, .int .i64 l0.h] from by simp [upd, e0, e1, e13])]; simp [go_sem]) ?_
    refine lyp F15 rfl HC3 rfl (by omega) (wanted_none rfl) (v := Value.bool is0) (fun wr hwr => by simp only [execOp, (F15.eval 38 (by omega)).trans (show _ = Value.bool is0 from by simp [upd, e0, e1, e13])]; first | rfl | simp [go_sem]) fun F16 => ?_
    refine ⟨fun _ => HC3, ?_⟩
    refine hK _ _ ?_
    clear F0 F1 F2 F3 F4 F5 F6 F7 F8 F9 F10 F11 F12 F13 F14 F15 F16 e0 e1 e13 HCC VH HC2 HC3
    simp only [Act.put, List.setIfInBounds_toArray, List.set_cons_succ, List.set_cons_zero]
    have hgl : Below X.heap.size X (({ X with drawn := X.drawn + 1 } : World).alloc (.cells #[.string ⟨l0.n.toArray⟩, .int .i64 l0.c, .int .i64 l0.rc, .int .i64 l0.v, .int .i64 l0.d, .int .i64 l0.u, .int .i64 l0.h] 105)) := (Below.drew (Below.refl X.heap.size X)).alloc (Nat.le_refl _) _
    have hlb : Blk (({ X with drawn := X.drawn + 1 } : World).alloc (.cells #[.string ⟨l0.n.toArray⟩, .int .i64 l0.c, .int .i64 l0.rc, .int .i64 l0.v, .int .i64 l0.d, .int .i64 l0.u, .int .i64 l0.h] 105)) X.heap.size #[.string ⟨l0.n.toArray⟩, .int .i64 l0.c, .int .i64 l0.rc, .int .i64 l0.v, .int .i64 l0.d, .int .i64 l0.u, .int .i64 l0.h] 105 := heap_alloc_new ({ X with drawn := X.drawn + 1 } : World) _
    have hbxl : bx ≠ X.heap.size := Nat.ne_of_lt hB2.lt
    have HH4 := HH.more hgl
    have hB4 : Blk (({ X with drawn := X.drawn + 1 } : World).alloc (.cells #[.string ⟨l0.n.toArray⟩, .int .i64 l0.c, .int .i64 l0.rc, .int .i64 l0.v, .int .i64 l0.d, .int .i64 l0.u, .int .i64 l0.h] 105)) bx #[.string ⟨n.toArray⟩, .int .i64 c, .int .i64 rc, .int .i64 (1), .int .i64 d, .int .i64 u, .int .i64 h] 105 := hB2.below hgl hB2.lt
    have HBW4 : Hid (Below w.heap.size w (({ X with drawn := X.drawn + 1 } : World).alloc (.cells #[.string ⟨l0.n.toArray⟩, .int .i64 l0.c, .int .i64 l0.rc, .int .i64 l0.v, .int .i64 l0.d, .int .i64 l0.u, .int .i64 l0.h] 105))) := HBW.out.trans (hgl.mono HBW.out.size)
    have hlw : w.heap.size ≤ X.heap.size := HBW.out.size
    clear HH hB2 hBX hgl HBW HLK
    generalize (({ X with drawn := X.drawn + 1 } : World).alloc (.cells #[.string ⟨l0.n.toArray⟩, .int .i64 l0.c, .int .i64 l0.rc, .int .i64 l0.v, .int .i64 l0.d, .int .i64 l0.u, .int .i64 l0.h] 105)) = X4 at *
    obtain ⟨lb, hlbe⟩ : ∃ lb, lb = X.heap.size := ⟨_, rfl⟩
    rw [← hlbe] at hlb hbxl hlw ⊢
    clear hlbe
    cases is0 with
    | false =>
      have k0 := HH4.c0
      have HSP : Hid _ := spoken_any me X4 HH4 hL
      have HHH : Hid _ := HH4
      have HB4 : Hid _ := hB4
      clear HH4 hB4 hlb
      go_wp2_with fail
      refine Calls.mono HSP.out ?_
      rintro e w5 ⟨rfl, hb5⟩
      have HBY : Hid (Below w.heap.size w w5) := HBW4.out.trans (hb5.mono HBW4.out.size)
      by_cases hcn : 64 ≤ cntR me L
      · have HCO : Hid (tellCode me L ⟨me, n, c, rc, 1, d, u, h⟩ = 102) := show tellCode me L ⟨me, n, c, rc, 1, d, u, h⟩ = 102 from by
          unfold tellCode
          rw [if_neg (show ¬ _ = false by rw [HRT.out]; simp), if_neg (show ¬ (look me n L).isSome = true by rw [← HIS.out]; simp), if_pos hcn]
        have HNX : Hid (tellNext me L ⟨me, n, c, rc, 1, d, u, h⟩ = L) := show tellNext me L ⟨me, n, c, rc, 1, d, u, h⟩ = L from by
          unfold tellNext
          rw [if_neg (show ¬ _ = false by rw [HRT.out]; simp), if_neg (show ¬ (look me n L).isSome = true by rw [← HIS.out]; simp), if_pos hcn]
        have HH5 : Hid _ := HHH.out.more hb5
        have hc2 : (64 : Int) ≤ (cntR me L : Nat) := by omega
        clear hb5
        go_wp2_with fail
        go_ret
        exact ⟨ret_i64 HCO.out.symm, by rw [HNX.out]; exact HH5.out, Chg.ofBelow _ HBY.out⟩
      · have HCO : Hid (tellCode me L ⟨me, n, c, rc, 1, d, u, h⟩ = 0) := show tellCode me L ⟨me, n, c, rc, 1, d, u, h⟩ = 0 from by
          unfold tellCode
          rw [if_neg (show ¬ _ = false by rw [HRT.out]; simp), if_neg (show ¬ (look me n L).isSome = true by rw [← HIS.out]; simp), if_neg hcn]
        have HNX : Hid (tellNext me L ⟨me, n, c, rc, 1, d, u, h⟩ = putE ⟨me, n, c, rc, 1, d, u, h⟩ L) := show tellNext me L ⟨me, n, c, rc, 1, d, u, h⟩ = putE ⟨me, n, c, rc, 1, d, u, h⟩ L from by
          unfold tellNext
          rw [if_neg (show ¬ _ = false by rw [HRT.out]; simp), if_neg (show ¬ (look me n L).isSome = true by rw [← HIS.out]; simp), if_neg hcn]
        have HH := HHH.out.more hb5
        have HVB : VAt w5 bx 0 ⟨me, n, c, rc, 1, d, u, h⟩ := box_cells (e := ⟨me, n, c, rc, 1, d, u, h⟩) (Blk.below HB4.out hb5 (Blk.lt HB4.out))
        have hc2 : ¬ (64 : Int) ≤ (cntR me L : Nat) := by omega
        clear hb5 HHH HB4 HSP
        go_wp2_with fail
        rename_i K hK
        try rw [show ∀ a : Act, a.put none undef = a from fun _ => rfl]
        refine wp_region_mix (fun wq => Below w5.heap.size w5 wq) (fun i => i == 6) 6 (by kernel_rfl) rfl (by kernel_rfl) (by kernel_rfl) (by kernel_rfl) ?_
        refine withFrP (N := 64) rfl ?_
        intro f0 F0 hff
        have e0 : f0 0 = Value.pointer (some ⟨hb, 0, none⟩) := hff 0
        have e13 : f0 13 = Value.pointer (some ⟨bx, 0, none⟩) := hff 13
        clear hff
        have HCC : (fun wq => Below w5.heap.size w5 wq) (({ w5 with drawn := w5.drawn + 1 } : World)) := (Below.drew (Below.refl w5.heap.size w5))
        have VH : ∀ wr, Below w5.heap.size w5 wr → Vw hb mb me M L wr := fun wr hw => ⟨HH.blk.below hw HH.blk.lt, HH.map.same (hw.block mb HH.map.lt)⟩
        have VB : ∀ wr, Below w5.heap.size w5 wr → VAt wr bx 0 ⟨me, n, c, rc, 1, d, u, h⟩ := fun wr hw => HVB.keep (hw.block bx HVB.lt)
        refine lyp F0 rfl HCC rfl (by omega) (wanted_none rfl) (v := Value.pointer (some ⟨hb, 0, none⟩)) (fun wr hwr => by simp only [execOp, (F0.eval 0 (by omega)).trans (show _ = Value.pointer (some ⟨hb, 0, none⟩) from by simp [upd, e0, e13])]; first | rfl | simp [go_sem]) fun F1 => ?_
        refine lyp F1 rfl HCC rfl (by omega) (wanted_none rfl) (v := Value.pointer (some ⟨hb, 0, none⟩)) (fun wr hwr => by simp only [execOp, (F1.eval 0 (by omega)).trans (show _ = Value.pointer (some ⟨hb, 0, none⟩) from by simp [upd, e0, e13])]; first | rfl | simp [go_sem]) fun F2 => ?_
        refine lyp F2 rfl HCC rfl (by omega) (wanted_none rfl) (v := Value.pointer (some ⟨hb, 0, none⟩)) (fun wr hwr => by simp only [execOp, (F2.eval 58 (by omega)).trans (show _ = Value.pointer (some ⟨hb, 0, none⟩) from by simp [upd, e0, e13])]; simp [go_sem]) fun F3 => ?_
        refine lyp F3 rfl HCC rfl (by omega) (wanted_none rfl) (v := Value.pointer (some ⟨hb, 0, none⟩)) (fun wr hwr => by simp only [execOp, (F3.eval 59 (by omega)).trans (show _ = Value.pointer (some ⟨hb, 0, none⟩) from by simp [upd, e0, e13])]; simp [go_sem]) fun F4 => ?_
        refine lyp F4 rfl HCC rfl (by omega) (wanted_none rfl) (v := Value.int .i64 me) (fun wr hwr => by simp only [execOp, (F4.eval 60 (by omega)).trans (show _ = Value.pointer (some ⟨hb, 0, none⟩) from by simp [upd, e0, e13])]; simp [go_sem, (VH wr hwr).c0]) fun F5 => ?_
        refine lyp F5 rfl HCC rfl (by omega) (wanted_none rfl) (v := Value.agg #[.string ⟨n.toArray⟩, .int .i64 c, .int .i64 rc, .int .i64 (1), .int .i64 d, .int .i64 u, .int .i64 h]) (fun wr hwr => by simp only [execOp, (F5.eval 13 (by omega)).trans (show _ = Value.pointer (some ⟨bx, 0, none⟩) from by simp [upd, e0, e13])]; simp [go_sem, (VB wr hwr).c0, (VB wr hwr).c1, (VB wr hwr).c2, (VB wr hwr).c3, (VB wr hwr).c4, (VB wr hwr).c5, (VB wr hwr).c6]) fun F6 => ?_
        refine lcp F6 rfl HCC rfl (by omega) (wanted_none rfl) (g := 49) (args := #[Value.pointer (some ⟨hb, 0, none⟩), Value.int .i64 me, Value.agg #[.string ⟨n.toArray⟩, .int .i64 c, .int .i64 rc, .int .i64 (1), .int .i64 d, .int .i64 u, .int .i64 h]]) (by simp only [execOp, resolve, invoke, List.map_toArray, List.map_cons, List.map_nil, (F6.eval 57 (by omega)).trans (show _ = Value.pointer (some ⟨hb, 0, none⟩) from by simp [upd, e0, e13]), (F6.eval 61 (by omega)).trans (show _ = Value.int .i64 me from by simp [upd, e0, e13]), (F6.eval 62 (by omega)).trans (show _ = Value.agg #[.string ⟨n.toArray⟩, .int .i64 c, .int .i64 rc, .int .i64 (1), .int .i64 d, .int .i64 u, .int .i64 h] from by simp [upd, e0, e13])]; simp [go_sem, Act.eval]) (keep_any me ⟨me, n, c, rc, 1, d, u, h⟩ (({ w5 with drawn := w5.drawn + 1 } : World)) (VH _ HCC) hnl) ?_
        rintro e w9 ⟨rfl, hV9, hc9⟩
        refine ⟨_, rfl, fun F7 => ?_⟩
        refine ⟨fun h => by omega, ?_⟩
        refine hK _ _ ?_
        clear F0 F1 F2 F3 F4 F5 F6 F7 e0 e13 HCC VH VB
        simp only [Act.put, List.setIfInBounds_toArray, List.set_cons_succ, List.set_cons_zero]
        have HV9 : Hid _ := hV9
        have HC9 : Hid (Chg (fun k => k = mb) w w9) := ((Chg.ofBelow (fun k => k = mb) HBY.out).drewN 1).trans hc9 (fun _ _ e => e)
        clear hV9 hc9
        go_wp2_with fail
        go_ret
        exact ⟨ret_i64 HCO.out.symm, by rw [HNX.out]; exact HV9.out, HC9.out⟩
    | true =>
      have q0 : VAt X4 lb 0 l0 := box_cells (e := l0) hlb
      have z3' := q0.c3
      have fz := hB4.frozen 3
      have hl1 : l0 ∈ L := by
        have h1 := HIS.out
        have h2 := HL0.out
        unfold lookD at h2
        cases hq : look me n L with
        | none => rw [hq] at h1; cases h1
        | some y => rw [hq] at h2; rw [h2]; exact List.mem_of_find?_eq_some hq
      have hl2 : l0.r = me := by
        have h1 := HIS.out
        have h2 := HL0.out
        unfold lookD at h2
        cases hq : look me n L with
        | none => rw [hq] at h1; cases h1
        | some y => rw [hq] at h2; rw [h2]; exact (isK_iff.1 (List.find?_some hq)).1.symm
      have hvr := HVV.out l0 hl1 hl2
      clear hl2
      have HBC : Hid (Below w.heap.size X4 (X4.setCell ⟨bx, 3, none⟩ (.int .i64 l0.v))) := ⟨rfl, rfl, rfl, by simp [World.setCell], fun k hk => Below.heap_setCell _ _ _ _ (by have := HBXW.out; exact Nat.ne_of_lt (Nat.lt_of_lt_of_le hk this))⟩
      have hch : Chg (fun k => k = bx) X4 (X4.setCell ⟨bx, 3, none⟩ (.int .i64 l0.v)) := ⟨rfl, rfl, rfl, by simp [World.setCell], fun k hk hn => Below.heap_setCell _ _ _ _ hn⟩
      have hhb : hb ≠ bx := HH4.blk.ne_t hB4 (by decide)
      have hmb : mb ≠ bx := fun e => HH4.map.ne_b hB4 e.symm
      have HH5 : Hid _ := HH4.keep hch hhb hmb
      have hB5 : Blk (X4.setCell ⟨bx, 3, none⟩ (.int .i64 l0.v)) bx #[.string ⟨n.toArray⟩, .int .i64 c, .int .i64 rc, .int .i64 (l0.v), .int .i64 d, .int .i64 u, .int .i64 h] 105 := hB4.set 3 (.int .i64 l0.v)
      have hl5 : Blk (X4.setCell ⟨bx, 3, none⟩ (.int .i64 l0.v)) lb #[.string ⟨l0.n.toArray⟩, .int .i64 l0.c, .int .i64 l0.rc, .int .i64 l0.v, .int .i64 l0.d, .int .i64 l0.u, .int .i64 l0.h] 105 := hch.blk hlb (fun e => hbxl e.symm)
      have HB5 : Hid _ := hB5
      have cz : X4.cell? ⟨bx, 3, none⟩ = some (.int .i64 1) := hB4.cell 3
      obtain ⟨y0, y1, y2, y3, y4, y5, y6⟩ := box_cells (e := ⟨me, n, c, rc, l0.v, d, u, h⟩) hB5
      obtain ⟨z0, z1, z2, z3, z4, z5, z6⟩ := box_cells (e := l0) hl5
      simp only [Nat.zero_add] at z3' y0 y1 y2 y3 y4 y5 y6 z0 z1 z2 z3 z4 z5 z6
      obtain ⟨bb, hbb⟩ : ∃ bb, bb = sameV ⟨me, n, c, rc, l0.v, d, u, h⟩ l0 := ⟨_, rfl⟩
      have HEQ : (binOp .eql 105 (.agg #[.string ⟨n.toArray⟩, .int .i64 c, .int .i64 rc, .int .i64 (l0.v), .int .i64 d, .int .i64 u, .int .i64 h]) (.agg #[.string ⟨l0.n.toArray⟩, .int .i64 l0.c, .int .i64 l0.rc, .int .i64 l0.v, .int .i64 l0.d, .int .i64 l0.u, .int .i64 l0.h])).run Tryz.prog (X4.setCell ⟨bx, 3, none⟩ (.int .i64 l0.v)) = .ok (.bool bb) (X4.setCell ⟨bx, 3, none⟩ (.int .i64 l0.v)) := by rw [hbb]; exact eql46 ⟨me, n, c, rc, l0.v, d, u, h⟩ l0 _
      have HBB : Hid _ := hbb
      clear q0 HH4 hB4 hlb hch hB5 hl5 hl1 hbb
      go_upto_region 7 with fail
      refine wp_region_lit ?_
      refine withFrS (N := 64) rfl ?_
      intro f0 F0 hff
      have hs13 : f0 13 = Value.pointer (some ⟨bx, 0, none⟩) := hff 13
      have hs14 : f0 14 = Value.pointer (some ⟨lb, 0, none⟩) := hff 14
      clear hff
      refine syp F0 rfl (by omega) (wanted_none rfl) (v := Value.agg #[.string ⟨n.toArray⟩, .int .i64 c, .int .i64 rc, .int .i64 (l0.v), .int .i64 d, .int .i64 u, .int .i64 h]) (by simp only [execOp, (F0.eval 13 (by omega)).trans (show _ = Value.pointer (some ⟨bx, 0, none⟩) from by simp [upd, hs13, hs14])]; simp [go_sem, Act.eval, y0, y1, y2, y3, y4, y5, y6]) fun F1 => ?_
      refine syp F1 rfl (by omega) (wanted_none rfl) (v := Value.agg #[.string ⟨l0.n.toArray⟩, .int .i64 l0.c, .int .i64 l0.rc, .int .i64 l0.v, .int .i64 l0.d, .int .i64 l0.u, .int .i64 l0.h]) (by simp only [execOp, (F1.eval 14 (by omega)).trans (show _ = Value.pointer (some ⟨lb, 0, none⟩) from by simp [upd, hs13, hs14])]; simp [go_sem, Act.eval, z0, z1, z2, z3, z4, z5, z6]) fun F2 => ?_
      refine syp F2 rfl (by omega) (wanted_none rfl) (v := Value.bool bb) (by simp only [execOp, (F2.eval 43 (by omega)).trans (show _ = Value.agg #[.string ⟨n.toArray⟩, .int .i64 c, .int .i64 rc, .int .i64 (l0.v), .int .i64 d, .int .i64 u, .int .i64 h] from by simp [upd, hs13, hs14]), (F2.eval 44 (by omega)).trans (show _ = Value.agg #[.string ⟨l0.n.toArray⟩, .int .i64 l0.c, .int .i64 l0.rc, .int .i64 l0.v, .int .i64 l0.d, .int .i64 l0.u, .int .i64 l0.h] from by simp [upd, hs13, hs14]), Sem.run_bind]; erw [eqg46 _ _ ⟨me, n, c, rc, l0.v, d, u, h⟩ l0]; simp only [Result.andThen_ok, HEQ]; rfl) fun F3 => ?_
      refine ⟨?_⟩
      clear F0 F1 F2 F3 hs13 hs14 
      simp only [Act.put, List.setIfInBounds_toArray, List.set_cons_succ, List.set_cons_zero]
      have HIF1 : Hid (¬ Ent.right ⟨me, n, c, rc, 1, d, u, h⟩ = false) := show ¬ Ent.right ⟨me, n, c, rc, 1, d, u, h⟩ = false from by rw [HRT.out]; simp
      have HIF2 : Hid ((look me n L).isSome = true) := HIS.out.symm
      clear y0 y1 y2 y4 y5 y6 z0 z1 z2 z4 z5 z6 HEQ cz
      cases bb with
      | true =>
        have HCO : Hid (tellCode me L ⟨me, n, c, rc, 1, d, u, h⟩ = 0) := show tellCode me L ⟨me, n, c, rc, 1, d, u, h⟩ = 0 from by
          unfold tellCode
          rw [if_neg HIF1.out, if_pos HIF2.out]
        have HNX : Hid (tellNext me L ⟨me, n, c, rc, 1, d, u, h⟩ = L) := show tellNext me L ⟨me, n, c, rc, 1, d, u, h⟩ = L from by
          unfold tellNext
          rw [if_neg HIF1.out, if_pos HIF2.out]
          simp only
          rw [← HL0.out, if_pos HBB.out.symm]
        clear y3 z3
        go_wp2_with fail
        go_ret
        exact ⟨ret_i64 HCO.out.symm, by rw [HNX.out]; exact HH5.out, Chg.ofBelow _ (HBW4.out.trans HBC.out)⟩
      | false =>
        have HCO : Hid (tellCode me L ⟨me, n, c, rc, 1, d, u, h⟩ = 0) := show tellCode me L ⟨me, n, c, rc, 1, d, u, h⟩ = 0 from by
          unfold tellCode
          rw [if_neg HIF1.out, if_pos HIF2.out]
        have HNX : Hid (tellNext me L ⟨me, n, c, rc, 1, d, u, h⟩ = putE ⟨me, n, c, rc, l0.v + 1, d, u, h⟩ L) := show tellNext me L ⟨me, n, c, rc, 1, d, u, h⟩ = putE ⟨me, n, c, rc, l0.v + 1, d, u, h⟩ L from by
          unfold tellNext
          rw [if_neg HIF1.out, if_pos HIF2.out]
          simp only
          rw [← HL0.out, if_neg (by rw [← HBB.out]; simp)]
        have HB6 : Hid (Below w.heap.size w (X4.setCell ⟨bx, 3, none⟩ (.int .i64 l0.v))) := HBW4.out.trans HBC.out
        clear HBC HBW4 z3 HBB HL0 HIS
        generalize X4.setCell ⟨bx, 3, none⟩ (.int .i64 l0.v) = X5 at *
        have fz5 := Blk.frozen HB5.out 3
        have hw : IntKind.i64.wrap (l0.v + 1) = l0.v + 1 := by rw [IntKind.wrap_i64]; omega
        have hch6 : Chg (fun k => k = bx) X5 (X5.setCell ⟨bx, 3, none⟩ (.int .i64 (l0.v + 1))) := ⟨rfl, rfl, rfl, by simp [World.setCell], fun k hk hn => Below.heap_setCell _ _ _ _ hn⟩
        have HH := HH5.out.keep hch6 hhb hmb
        have HVB : VAt (X5.setCell ⟨bx, 3, none⟩ (.int .i64 (l0.v + 1))) bx 0 ⟨me, n, c, rc, l0.v + 1, d, u, h⟩ := box_cells (e := ⟨me, n, c, rc, l0.v + 1, d, u, h⟩) (Blk.set HB5.out 3 (.int .i64 (l0.v + 1)))
        have HBY : Hid (Below w.heap.size w (X5.setCell ⟨bx, 3, none⟩ (.int .i64 (l0.v + 1)))) := HB6.out.trans ⟨rfl, rfl, rfl, by simp [World.setCell], fun k hk => Below.heap_setCell _ _ _ _ (by have := HBXW.out; exact Nat.ne_of_lt (Nat.lt_of_lt_of_le hk this))⟩
        clear hch6 HH5 HB5 HB6 hhb hmb
        go_wp2_with fail
        clear y3 fz5 fz
        generalize X5.setCell ⟨bx, 3, none⟩ (.int .i64 (l0.v + 1)) = X6 at *
        rename_i K hK
        try rw [show ∀ a : Act, a.put none undef = a from fun _ => rfl]
        refine wp_region_mix (fun wq => Below X6.heap.size X6 wq) (fun i => i == 6) 6 (by kernel_rfl) rfl (by kernel_rfl) (by kernel_rfl) (by kernel_rfl) ?_
        refine withFrP (N := 64) rfl ?_
        intro f0 F0 hff
        have e0 : f0 0 = Value.pointer (some ⟨hb, 0, none⟩) := hff 0
        have e13 : f0 13 = Value.pointer (some ⟨bx, 0, none⟩) := hff 13
        clear hff
        have HCC : (fun wq => Below X6.heap.size X6 wq) (({ X6 with drawn := X6.drawn + 1 } : World)) := (Below.drew (Below.refl X6.heap.size X6))
        have VH : ∀ wr, Below X6.heap.size X6 wr → Vw hb mb me M L wr := fun wr hw => ⟨HH.blk.below hw HH.blk.lt, HH.map.same (hw.block mb HH.map.lt)⟩
        have VB : ∀ wr, Below X6.heap.size X6 wr → VAt wr bx 0 ⟨me, n, c, rc, l0.v + 1, d, u, h⟩ := fun wr hw => HVB.keep (hw.block bx HVB.lt)
        refine lyp F0 rfl HCC rfl (by omega) (wanted_none rfl) (v := Value.pointer (some ⟨hb, 0, none⟩)) (fun wr hwr => by simp only [execOp, (F0.eval 0 (by omega)).trans (show _ = Value.pointer (some ⟨hb, 0, none⟩) from by simp [upd, e0, e13])]; first | rfl | simp [go_sem]) fun F1 => ?_
        refine lyp F1 rfl HCC rfl (by omega) (wanted_none rfl) (v := Value.pointer (some ⟨hb, 0, none⟩)) (fun wr hwr => by simp only [execOp, (F1.eval 0 (by omega)).trans (show _ = Value.pointer (some ⟨hb, 0, none⟩) from by simp [upd, e0, e13])]; first | rfl | simp [go_sem]) fun F2 => ?_
        refine lyp F2 rfl HCC rfl (by omega) (wanted_none rfl) (v := Value.pointer (some ⟨hb, 0, none⟩)) (fun wr hwr => by simp only [execOp, (F2.eval 58 (by omega)).trans (show _ = Value.pointer (some ⟨hb, 0, none⟩) from by simp [upd, e0, e13])]; simp [go_sem]) fun F3 => ?_
        refine lyp F3 rfl HCC rfl (by omega) (wanted_none rfl) (v := Value.pointer (some ⟨hb, 0, none⟩)) (fun wr hwr => by simp only [execOp, (F3.eval 59 (by omega)).trans (show _ = Value.pointer (some ⟨hb, 0, none⟩) from by simp [upd, e0, e13])]; simp [go_sem]) fun F4 => ?_
        refine lyp F4 rfl HCC rfl (by omega) (wanted_none rfl) (v := Value.int .i64 me) (fun wr hwr => by simp only [execOp, (F4.eval 60 (by omega)).trans (show _ = Value.pointer (some ⟨hb, 0, none⟩) from by simp [upd, e0, e13])]; simp [go_sem, (VH wr hwr).c0]) fun F5 => ?_
        refine lyp F5 rfl HCC rfl (by omega) (wanted_none rfl) (v := Value.agg #[.string ⟨n.toArray⟩, .int .i64 c, .int .i64 rc, .int .i64 (l0.v + 1), .int .i64 d, .int .i64 u, .int .i64 h]) (fun wr hwr => by simp only [execOp, (F5.eval 13 (by omega)).trans (show _ = Value.pointer (some ⟨bx, 0, none⟩) from by simp [upd, e0, e13])]; simp [go_sem, (VB wr hwr).c0, (VB wr hwr).c1, (VB wr hwr).c2, (VB wr hwr).c3, (VB wr hwr).c4, (VB wr hwr).c5, (VB wr hwr).c6]) fun F6 => ?_
        refine lcp F6 rfl HCC rfl (by omega) (wanted_none rfl) (g := 49) (args := #[Value.pointer (some ⟨hb, 0, none⟩), Value.int .i64 me, Value.agg #[.string ⟨n.toArray⟩, .int .i64 c, .int .i64 rc, .int .i64 (l0.v + 1), .int .i64 d, .int .i64 u, .int .i64 h]]) (by simp only [execOp, resolve, invoke, List.map_toArray, List.map_cons, List.map_nil, (F6.eval 57 (by omega)).trans (show _ = Value.pointer (some ⟨hb, 0, none⟩) from by simp [upd, e0, e13]), (F6.eval 61 (by omega)).trans (show _ = Value.int .i64 me from by simp [upd, e0, e13]), (F6.eval 62 (by omega)).trans (show _ = Value.agg #[.string ⟨n.toArray⟩, .int .i64 c, .int .i64 rc, .int .i64 (l0.v + 1), .int .i64 d, .int .i64 u, .int .i64 h] from by simp [upd, e0, e13])]; simp [go_sem, Act.eval]) (keep_any me ⟨me, n, c, rc, l0.v + 1, d, u, h⟩ (({ X6 with drawn := X6.drawn + 1 } : World)) (VH _ HCC) hnl) ?_
        rintro e w9 ⟨rfl, hV9, hc9⟩
        refine ⟨_, rfl, fun F7 => ?_⟩
        refine ⟨fun h => by omega, ?_⟩
        refine hK _ _ ?_
        clear F0 F1 F2 F3 F4 F5 F6 F7 e0 e13 HCC VH VB
        simp only [Act.put, List.setIfInBounds_toArray, List.set_cons_succ, List.set_cons_zero]
        have HV9 : Hid _ := hV9
        have HC9 : Hid (Chg (fun k => k = mb) w w9) := ((Chg.ofBelow (fun k => k = mb) HBY.out).drewN 1).trans hc9 (fun _ _ e => e)
        clear hV9 hc9
        go_wp2_with fail
        go_ret
        exact ⟨ret_i64 HCO.out.symm, by rw [HNX.out]; exact HV9.out, HC9.out⟩
end Go.Proofs.YtnphkmdanicemaaGreatDoor
namespace Go.Proofs.YtnphkmdanicemaaGreatDoor
open Go.RowKit Go.PlainAid Go.MapKept
set_option linter.unusedVariables false
set_option linter.unusedSimpArgs false
def own (me : Int) (L : List Ent) : List Ent := L.filter fun e => e.r == me
theorem own_le (me : Int) (L : List Ent) : (own me L).length ≤ L.length := List.length_filter_le _ _
/-- The last one of a replica and a name, if there is one. -/
def lastO (r : Int) (n : List UInt8) (A : List Ent) : Option Ent := A.foldl (fun x e => if isK r n e = true then some e else x) none
theorem lastO_app (r : Int) (n : List UInt8) (A : List Ent) (e : Ent) : lastO r n (A ++ [e]) = if isK r n e = true then some e else lastO r n A := by simp [lastO]
theorem lastD_is (r : Int) (n : List UInt8) (A : List Ent) : lastD r n A = (lastO r n A).getD zed := by
  suffices h : ∀ (A : List Ent) (x : Ent) (y : Option Ent), x = y.getD zed → A.foldl (fun x e => if isK r n e = true then e else x) x = (A.foldl (fun x e => if isK r n e = true then some e else x) y).getD zed from h A zed none rfl
  intro A
  induction A with
  | nil => intro x y h; exact h
  | cons e t ih =>
    intro x y h
    simp only [List.foldl_cons]
    apply ih
    split
    · rfl
    · exact h
theorem lastO_mem (r : Int) (n : List UInt8) (A : List Ent) : (lastO r n A).isSome = true ↔ ∃ e ∈ A, e.r = r ∧ e.n = n := by
  suffices h : ∀ (A : List Ent) (y : Option Ent), (A.foldl (fun x e => if isK r n e = true then some e else x) y).isSome = true ↔ (y.isSome = true ∨ ∃ e ∈ A, e.r = r ∧ e.n = n) from by
    have := h A none
    simpa [lastO] using this
  intro A
  induction A with
  | nil => intro y; simp
  | cons e t ih =>
    intro y
    simp only [List.foldl_cons]
    rw [ih]
    by_cases hk : isK r n e = true
    · rw [if_pos hk]
      have := isK_iff.1 hk
      constructor
      · intro _; exact Or.inr ⟨e, List.mem_cons_self .., this.1.symm, this.2.symm⟩
      · intro _; exact Or.inl rfl
    · rw [if_neg hk]
      constructor
      · rintro (h | ⟨x, hx, h⟩)
        · exact Or.inl h
        · exact Or.inr ⟨x, List.mem_cons_of_mem _ hx, h⟩
      · rintro (h | ⟨x, hx, h⟩)
        · exact Or.inl h
        · rcases List.mem_cons.1 hx with rfl | hx
          · exact absurd (isK_iff.2 ⟨h.1.symm, h.2.symm⟩) hk
          · exact Or.inr ⟨x, hx, h⟩
def KN (L : List Ent) : Prop := L.Pairwise fun a b => ¬ (a.r = b.r ∧ a.n = b.n)
theorem mem_put {e y : Ent} : ∀ {L : List Ent}, y ∈ putE e L → y = e ∨ y ∈ L
  | [], h => by simp [putE] at h; exact Or.inl h
  | x :: t, h => by
    simp only [putE] at h
    split at h
    · rcases List.mem_cons.1 h with h | h
      · exact Or.inl h
      · exact Or.inr (List.mem_cons_of_mem _ h)
    · rcases List.mem_cons.1 h with h | h
      · exact Or.inr (by rw [h]; exact List.mem_cons_self ..)
      · exact (mem_put h).imp id (List.mem_cons_of_mem _)
theorem put_len (e : Ent) : ∀ L : List Ent, (putE e L).length ≤ L.length + 1
  | [] => by simp [putE]
  | x :: t => by
    have := put_len e t
    simp only [putE]
    split <;> simp <;> omega
theorem KN.put {e : Ent} : ∀ {L : List Ent}, KN L → KN (putE e L)
  | [], h => List.pairwise_cons.2 ⟨fun _ h => (by cases h), List.Pairwise.nil⟩
  | x :: t, h => by
    obtain ⟨h1, h2⟩ := List.pairwise_cons.1 h
    simp only [putE]
    by_cases hk : isK e.r e.n x = true
    · rw [if_pos hk]
      have he := isK_iff.1 hk
      exact List.pairwise_cons.2 ⟨fun b hb hh => h1 b hb ⟨he.1.symm.trans hh.1, he.2.symm.trans hh.2⟩, h2⟩
    · rw [if_neg hk]
      refine List.pairwise_cons.2 ⟨fun b hb hh => ?_, KN.put (L := t) h2⟩
      rcases mem_put hb with rfl | hb
      · exact hk (isK_iff.2 ⟨hh.1.symm, hh.2.symm⟩)
      · exact h1 b hb hh
theorem look_put (e : Ent) (r : Int) (n : List UInt8) : ∀ L : List Ent, look r n (putE e L) = if isK r n e = true then some e else look r n L
  | [] => by
    simp only [putE, look, List.find?_cons, List.find?_nil]
    cases isK r n e <;> rfl
  | x :: t => by
    have ih := look_put e r n t
    simp only [putE]
    by_cases hk : isK e.r e.n x = true
    · rw [if_pos hk]
      have he := isK_iff.1 hk
      have hx : isK r n x = isK r n e := by simp [isK, he.1, he.2]
      simp only [look, List.find?_cons, hx]
      cases isK r n e <;> rfl
    · rw [if_neg hk]
      unfold look at ih ⊢
      simp only [List.find?_cons]
      rw [ih]
      cases h1 : isK r n x <;> cases h2 : isK r n e
      · rfl
      · rfl
      · rfl
      · have a := isK_iff.1 h1
        have b := isK_iff.1 h2
        exact absurd (isK_iff.2 ⟨b.1.symm.trans a.1, b.2.symm.trans a.2⟩) hk
theorem KN.look {L : List Ent} (h : KN L) {e : Ent} (he : e ∈ L) : look e.r e.n L = some e := by
  induction L with
  | nil => cases he
  | cons x t ih =>
    obtain ⟨h1, h2⟩ := List.pairwise_cons.1 h
    unfold Go.Proofs.YtnphkmdanicemaaGreatDoor.look
    rw [List.find?_cons]
    rcases List.mem_cons.1 he with rfl | ht
    · rw [show isK e.r e.n e = true from isK_iff.2 ⟨rfl, rfl⟩]
    · have : isK e.r e.n x = false := by
        cases hk : isK e.r e.n x
        · rfl
        · have := isK_iff.1 hk
          exact absurd ⟨this.1.symm, this.2.symm⟩ (h1 e ht)
      rw [this]
      exact ih h2 ht
theorem look_key {r : Int} {n : List UInt8} {L : List Ent} {e : Ent} (h : look r n L = some e) : e ∈ L ∧ e.r = r ∧ e.n = n := by
  have h1 := List.mem_of_find?_eq_some h
  have h2 := isK_iff.1 (List.find?_some h)
  exact ⟨h1, h2.1.symm, h2.2.symm⟩
theorem mem_ins {nm x : List UInt8} : ∀ {l : List (List UInt8)}, x ∈ insN nm l ↔ x = nm ∨ x ∈ l
  | [] => by simp [insN]
  | y :: t => by
    have ih := mem_ins (nm := nm) (x := x) (l := t)
    simp only [insN]
    split
    · simp only [List.mem_cons, ih]
      constructor
      · rintro (h | h | h) <;> simp [h]
      · rintro (h | h | h) <;> simp [h]
    · split
      · rename_i hy
        subst hy
        simp
      · simp
theorem nlt_or {a b : List UInt8} (h : nlt a b = false) : a = b ∨ nlt b a = true := by
  have := nlt_tri a b
  rw [h] at this
  cases h2 : nlt b a
  · rw [h2] at this
    cases h3 : (b == a)
    · rw [h3] at this; cases this
    · have h4 : b = a := by simpa using h3
      exact Or.inl h4.symm
  · exact Or.inr rfl
def Ups (l : List (List UInt8)) : Prop := l.Pairwise fun a b => nlt a b = true
theorem Ups.ins {nm : List UInt8} : ∀ {l : List (List UInt8)}, Ups l → Ups (insN nm l)
  | [], h => List.pairwise_cons.2 ⟨fun _ h => (by cases h), List.Pairwise.nil⟩
  | y :: t, h => by
    obtain ⟨h1, h2⟩ := List.pairwise_cons.1 h
    simp only [insN]
    by_cases c1 : nlt y nm = true
    · rw [if_pos c1]
      refine List.pairwise_cons.2 ⟨fun b hb => ?_, Ups.ins h2⟩
      rcases mem_ins.1 hb with rfl | hb
      · exact c1
      · exact h1 b hb
    · rw [if_neg c1]
      by_cases c2 : y = nm
      · rw [if_pos c2]
        subst c2
        exact h
      · rw [if_neg c2]
        have c3 : nlt nm y = true := (nlt_or (by simpa using c1)).resolve_left c2
        refine List.pairwise_cons.2 ⟨fun b hb => ?_, h⟩
        rcases List.mem_cons.1 hb with rfl | hb
        · exact c3
        · exact nlt_trans _ _ _ c3 (h1 b hb)
theorem nms_ups (r : Int) (A : List Ent) : Ups (nmsL r A) := by
  suffices h : ∀ (A : List Ent) (o : List (List UInt8)), Ups o → Ups (A.foldl (fun o e => if e.r = r then insN e.n o else o) o) from h A [] List.Pairwise.nil
  intro A
  induction A with
  | nil => intro o h; exact h
  | cons e t ih =>
    intro o h
    simp only [List.foldl_cons]
    apply ih
    split
    · exact h.ins
    · exact h
theorem mem_nms (r : Int) (n : List UInt8) (A : List Ent) : n ∈ nmsL r A ↔ ∃ e ∈ A, e.r = r ∧ e.n = n := by
  suffices h : ∀ (A : List Ent) (o : List (List UInt8)), n ∈ A.foldl (fun o e => if e.r = r then insN e.n o else o) o ↔ (n ∈ o ∨ ∃ e ∈ A, e.r = r ∧ e.n = n) from by simpa [nmsL] using h A []
  intro A
  induction A with
  | nil => intro o; simp
  | cons e t ih =>
    intro o
    simp only [List.foldl_cons]
    rw [ih]
    by_cases hr : e.r = r
    · rw [if_pos hr, mem_ins]
      constructor
      · rintro ((h | h) | ⟨x, hx, h⟩)
        · exact Or.inr ⟨e, List.mem_cons_self .., hr, h.symm⟩
        · exact Or.inl h
        · exact Or.inr ⟨x, List.mem_cons_of_mem _ hx, h⟩
      · rintro (h | ⟨x, hx, h⟩)
        · exact Or.inl (Or.inr h)
        · rcases List.mem_cons.1 hx with rfl | hx
          · exact Or.inl (Or.inl h.2.symm)
          · exact Or.inr ⟨x, hx, h⟩
    · rw [if_neg hr]
      constructor
      · rintro (h | ⟨x, hx, h⟩)
        · exact Or.inl h
        · exact Or.inr ⟨x, List.mem_cons_of_mem _ hx, h⟩
      · rintro (h | ⟨x, hx, h⟩)
        · exact Or.inl h
        · rcases List.mem_cons.1 hx with rfl | hx
          · exact absurd h.1 hr
          · exact Or.inr ⟨x, hx, h⟩
theorem ups_ext : ∀ {l m : List (List UInt8)}, Ups l → Ups m → (∀ x, x ∈ l ↔ x ∈ m) → l = m
  | [], [], _, _, _ => rfl
  | [], b :: m, _, _, h => by have := (h b).2 (List.mem_cons_self ..); cases this
  | a :: l, [], _, _, h => by have := (h a).1 (List.mem_cons_self ..); cases this
  | a :: l, b :: m, h1, h2, h => by
    obtain ⟨a1, a2⟩ := List.pairwise_cons.1 h1
    obtain ⟨b1, b2⟩ := List.pairwise_cons.1 h2
    have hab : a = b := by
      rcases List.mem_cons.1 ((h a).1 (List.mem_cons_self ..)) with h3 | h3
      · exact h3
      · rcases List.mem_cons.1 ((h b).2 (List.mem_cons_self ..)) with h4 | h4
        · exact h4.symm
        · have h5 := nlt_trans _ _ _ (b1 a h3) (a1 b h4)
          rw [nlt_irrefl] at h5
          cases h5
    subst hab
    congr 1
    refine ups_ext a2 b2 fun x => ?_
    constructor
    · intro hx
      rcases List.mem_cons.1 ((h x).1 (List.mem_cons_of_mem _ hx)) with h3 | h3
      · subst h3
        have := a1 x hx
        rw [nlt_irrefl] at this
        cases this
      · exact h3
    · intro hx
      rcases List.mem_cons.1 ((h x).2 (List.mem_cons_of_mem _ hx)) with h3 | h3
      · subst h3
        have := b1 x hx
        rw [nlt_irrefl] at this
        cases this
      · exact h3
theorem len_le_sub {α : Type} [DecidableEq α] : ∀ {l m : List α}, l.Nodup → (∀ x ∈ l, x ∈ m) → l.length ≤ m.length
  | [], m, _, _ => Nat.zero_le _
  | a :: t, m, hn, hs => by
    obtain ⟨h1, h2⟩ := List.nodup_cons.1 hn
    have ha := hs a (List.mem_cons_self ..)
    have ih := len_le_sub (l := t) (m := m.erase a) h2 (fun x hx => (List.mem_erase_of_ne (fun e => h1 (by rw [← e]; exact hx))).2 (hs x (List.mem_cons_of_mem _ hx)))
    rw [List.length_erase_of_mem ha] at ih
    have := List.length_pos_of_mem ha
    simp
    omega
end Go.Proofs.YtnphkmdanicemaaGreatDoor
namespace Go.Proofs.YtnphkmdanicemaaGreatDoor
open Go.RowKit Go.PlainAid Go.MapKept
set_option linter.unusedVariables false
set_option linter.unusedSimpArgs false
structure Ent.good (e : Ent) : Prop where
  n : e.n.length ≤ 16
  c : 1 ≤ e.c ∧ e.c ≤ 1099511627776
  v : 1 ≤ e.v
  d : 0 ≤ e.d
  u : 0 ≤ e.u
  h : 0 ≤ e.h
  s : e.d + e.u + e.h ≤ e.c
theorem right_good {e : Ent} (h : e.right = true) : e.good := by
  unfold Ent.right at h
  rw [fits3] at h
  simp only [Bool.and_eq_true, decide_eq_true_eq, nameB] at h
  obtain ⟨⟨⟨⟨⟨h1, h2⟩, h3⟩, h4⟩, h5⟩, ⟨⟨h6, h7⟩, h8⟩, h9⟩ := h
  exact ⟨h1.1.2, ⟨h2, h3⟩, h5, h6, h7, h8, h9⟩
/-- How the program's views and the document's agree. -/
structure AgC (me : Int) (M : Nat) (L A : List Ent) : Prop where
  ok : ∀ r n, look r n L = lastO r n A
  kn : KN L
  rt : ∀ e ∈ L, e.right = true
  ow : ∀ e ∈ L, e.r = me → e.v ≤ (M : Int)
  ll : L.length ≤ A.length
section
variable {me : Int} {M : Nat} {L A : List Ent}
theorem AgC.new (me : Int) (M : Nat) : AgC me M [] [] := ⟨fun _ _ => rfl, List.Pairwise.nil, (fun _ h => by cases h), (fun _ h => by cases h), Nat.le_refl _⟩
theorem AgC.mono {M' : Nat} (h : AgC me M L A) (hm : M ≤ M') : AgC me M' L A := ⟨h.ok, h.kn, h.rt, fun e he hr => by have := h.ow e he hr; omega, h.ll⟩
theorem AgC.put (h : AgC me M L A) {e : Ent} (hr : e.right = true) (hv : e.r = me → e.v ≤ (M : Int)) : AgC me M (putE e L) (A ++ [e]) := by
  refine ⟨fun r n => ?_, h.kn.put, fun x hx => ?_, fun x hx hh => ?_, ?_⟩
  · rw [look_put, lastO_app, h.ok]
  · rcases mem_put hx with rfl | hx
    · exact hr
    · exact h.rt x hx
  · rcases mem_put hx with rfl | hx
    · exact hv hh
    · exact h.ow x hx hh
  · have := put_len e L
    have := h.ll
    simp
    omega
theorem AgC.d (h : AgC me M L A) (r : Int) (n : List UInt8) : lookD r n L = lastD r n A := by unfold lookD; rw [h.ok, lastD_is]
theorem AgC.is (h : AgC me M L A) (r : Int) (n : List UInt8) : (look r n L).isSome = true ↔ (lastD r n A).v ≠ 0 := by
  rw [← h.d]
  unfold lookD
  cases hq : look r n L with
  | none => simp [zed]
  | some e =>
    have := (right_good (h.rt e (look_key hq).1)).v
    simp
    omega
theorem AgC.cnt (h : AgC me M L A) (r : Int) : cntR r L = (nmsL r A).length := by
  have e1 : cntR r L = ((own r L).map Ent.n).length := by rw [List.length_map]; unfold cntR own; rw [List.countP_eq_length_filter]
  have hmem : ∀ x, x ∈ (own r L).map Ent.n ↔ x ∈ nmsL r A := fun x => by
    rw [mem_nms, ← lastO_mem, ← h.ok, List.mem_map]
    constructor
    · rintro ⟨e, he, rfl⟩
      have h2 := List.mem_filter.1 he
      have hr : e.r = r := by simpa using h2.2
      have := h.kn.look h2.1
      rw [hr] at this
      rw [this]
      rfl
    · intro hs
      obtain ⟨e, he⟩ := Option.isSome_iff_exists.1 hs
      obtain ⟨k1, k2, k3⟩ := look_key he
      exact ⟨e, List.mem_filter.2 ⟨k1, by simpa using k2⟩, k3⟩
  have n1 : ((own r L).map Ent.n).Nodup := by
    unfold List.Nodup
    rw [List.pairwise_map]
    have h2 : (own r L).Pairwise fun a b => ¬ (a.r = b.r ∧ a.n = b.n) := h.kn.filter _
    refine h2.imp_of_mem fun {a b} ha hb hh e => hh ⟨?_, e⟩
    have h3 : a.r = r := by simpa using (List.mem_filter.1 ha).2
    have h4 : b.r = r := by simpa using (List.mem_filter.1 hb).2
    rw [h3, h4]
  have n2 : (nmsL r A).Nodup := (nms_ups r A).imp fun {a b} hh e => by
    subst e
    rw [nlt_irrefl] at hh
    cases hh
  rw [e1]
  exact Nat.le_antisymm (len_le_sub n1 fun x hx => (hmem x).1 hx) (len_le_sub n2 fun x hx => (hmem x).2 hx)
theorem AgC.about (h : AgC me M L A) (n : List UInt8) : ∀ k, aboutS n L k = raboutS n A k ∧ aboutK n L k = raboutK n A k
  | 0 => ⟨rfl, rfl⟩
  | k + 1 => by
    have ih := h.about n k
    have h1 := h.d k n
    have h2 := h.is k n
    refine ⟨by simp only [aboutS, raboutS, ih.1, h1], ?_⟩
    simp only [aboutK, raboutK, ih.2]
    congr 1
    have h3 : 0 ≤ (lastD k n A).v := by
      rw [← h1]
      unfold lookD
      cases hq : look (k : Int) n L with
      | none => simp [zed]
      | some e => have := (right_good (h.rt e (look_key hq).1)).v; simp; omega
    cases hs : (look (k : Int) n L).isSome
    · rw [eq_comm, decide_eq_false_iff_not]
      intro h4
      have := h2.2 (by omega)
      rw [hs] at this
      cases this
    · rw [eq_comm, decide_eq_true_eq]
      have := h2.1 hs
      omega
theorem AgC.known (h : AgC me M L A) (n : List UInt8) (k : Nat) : knownL n L k = rknownL n A k := by
  unfold knownL rknownL
  congr 1
  funext q
  rw [h.d]
theorem AgC.tell (h : AgC me M L A) (n : List UInt8) (c rc d u hh : Int) : tellCode me L ⟨me, n, c, rc, 1, d, u, hh⟩ = rtellCode me A ⟨me, n, c, rc, 1, d, u, hh⟩ ∧ AgC me (M + 1) (tellNext me L ⟨me, n, c, rc, 1, d, u, hh⟩) (rtellNext me A ⟨me, n, c, rc, 1, d, u, hh⟩) ∧ (rtellNext me A ⟨me, n, c, rc, 1, d, u, hh⟩).length ≤ A.length + 1 := by
  have hc := h.cnt me
  have hd := h.d me n
  have hi := h.is me n
  have hm := h.mono (Nat.le_succ M)
  unfold tellCode rtellCode tellNext rtellNext
  simp only
  by_cases hr : Ent.right ⟨me, n, c, rc, 1, d, u, hh⟩ = false
  · simp only [if_pos hr]
    exact ⟨trivial, hm, Nat.le_succ _⟩
  · simp only [if_neg hr]
    replace hr : Ent.right ⟨me, n, c, rc, 1, d, u, hh⟩ = true := by simpa using hr
    by_cases hs : (look me n L).isSome = true
    · have hv := hi.1 hs
      have hno : ¬ ((lastD me n A).v = 0 ∧ 64 ≤ (nmsL me A).length) := fun e => hv e.1
      simp only [if_pos hs, if_neg hno]
      refine ⟨trivial, ?_⟩
      rw [hd]
      obtain ⟨l, hl⟩ := Option.isSome_iff_exists.1 hs
      obtain ⟨k1, k2, k3⟩ := look_key hl
      have hle : lastD me n A = l := by rw [← hd]; unfold lookD; rw [hl]; rfl
      rw [hle]
      have hg := right_good (h.rt l k1)
      have hov := h.ow l k1 k2
      by_cases hq : rsame l ⟨me, n, c, rc, 1, d, u, hh⟩
      · have hq2 : sameV ⟨me, n, c, rc, l.v, d, u, hh⟩ l = true := by
          obtain ⟨_, q1, q2, q3, q4, q5⟩ := hq
          simp only at q1 q2 q3 q4 q5
          simp [sameV, k3, q1, q2, q3, q4, q5]
        rw [if_pos hq2, if_pos hq]
        exact ⟨hm, Nat.le_succ _⟩
      · have hq2 : ¬ sameV ⟨me, n, c, rc, l.v, d, u, hh⟩ l = true := fun hq3 => hq (by
          simp [sameV] at hq3
          obtain ⟨⟨⟨⟨⟨q0, q1⟩, q2⟩, q3⟩, q4⟩, q5⟩ := hq3
          exact ⟨by have := hg.v; omega, q1.symm, q2.symm, q3.symm, q4.symm, q5.symm⟩)
        rw [if_neg hq2, if_neg hq]
        refine ⟨hm.put (e := ⟨me, n, c, rc, l.v + 1, d, u, hh⟩) ?_ (fun _ => by simp only; omega), by simp⟩
        have hg2 := right_good hr
        have hg3 : decide (1 ≤ l.v + 1) = true := by have := hg.v; simp; omega
        unfold Ent.right at hr ⊢
        simp only at hr ⊢
        rw [hg3]
        simpa using hr
    · have hv : (lastD me n A).v = 0 := by
        cases Decidable.em ((lastD me n A).v = 0) with
        | inl e => exact e
        | inr e => exact absurd (hi.2 e) hs
      simp only [if_neg hs]
      by_cases hf : 64 ≤ cntR me L
      · have hf2 : (lastD me n A).v = 0 ∧ 64 ≤ (nmsL me A).length := ⟨hv, by omega⟩
        simp only [if_pos hf, if_pos hf2]
        exact ⟨trivial, hm, Nat.le_succ _⟩
      · have hf2 : ¬ ((lastD me n A).v = 0 ∧ 64 ≤ (nmsL me A).length) := fun e => hf (by omega)
        have hq : ¬ rsame (lastD me n A) ⟨me, n, c, rc, 1, d, u, hh⟩ := fun e => by have := e.1; omega
        simp only [if_neg hf, if_neg hf2, if_neg hq]
        refine ⟨trivial, ?_, by simp⟩
        rw [hv]
        exact hm.put (e := ⟨me, n, c, rc, 1, d, u, hh⟩) hr (fun _ => by simp only; omega)
theorem right_re {e : Ent} (h : e.right = true) (r : Int) : Ent.right { e with r := r } = true := h
theorem AgC.fold {r : Int} (hr : r ≠ me) : ∀ (es : List Ent) (L A : List Ent) (k : Nat), (∀ e ∈ es, e.right = true) → AgC me M L A →
    (es.foldl (takeStep r) (L, k)).2 = (es.foldl (rtakeStep r) (A, k)).2 ∧ AgC me M (es.foldl (takeStep r) (L, k)).1 (es.foldl (rtakeStep r) (A, k)).1 ∧ (es.foldl (rtakeStep r) (A, k)).1.length ≤ A.length + es.length
  | [], L, A, k, _, h => ⟨rfl, h, Nat.le_refl _⟩
  | e :: t, L, A, k, he, h => by
    simp only [List.foldl_cons]
    have hd := h.d r e.n
    by_cases hv : (lookD r e.n L).v < e.v
    · have e1 : takeStep r (L, k) e = (putE { e with r := r } L, k + 1) := by unfold takeStep; rw [if_pos hv]
      have e2 : rtakeStep r (A, k) e = (A ++ [{ e with r := r }], k + 1) := by unfold rtakeStep; rw [if_pos (by rw [← hd]; exact hv)]
      rw [e1, e2]
      obtain ⟨a, b, c⟩ := AgC.fold hr t _ _ (k + 1) (fun x hx => he x (List.mem_cons_of_mem _ hx)) (h.put (right_re (he e (List.mem_cons_self ..)) r) (fun e => absurd e hr))
      refine ⟨a, b, ?_⟩
      simp at c ⊢
      omega
    · have e1 : takeStep r (L, k) e = (L, k) := by unfold takeStep; rw [if_neg hv]
      have e2 : rtakeStep r (A, k) e = (A, k) := by unfold rtakeStep; rw [if_neg (by rw [← hd]; exact hv)]
      rw [e1, e2]
      obtain ⟨a, b, c⟩ := AgC.fold hr t _ _ k (fun x hx => he x (List.mem_cons_of_mem _ hx)) h
      refine ⟨a, b, ?_⟩
      simp at c ⊢
      omega
theorem AgC.take (h : AgC me M L A) (N r : Int) (es : List Ent) : takeCode me N r L es = rtakeCode me N r A es ∧ (takeNext me N r L es).2 = (rtakeNext me N r A es).2 ∧ AgC me M (takeNext me N r L es).1 (rtakeNext me N r A es).1 ∧ (rtakeNext me N r A es).1.length ≤ A.length + 64 := by
  have hc := h.cnt r
  have hst : strangeC r L es = rfresh r A es := by
    unfold strangeC rfresh
    refine List.countP_congr fun e _ => ?_
    have := h.is r e.n
    cases hl : look r e.n L with
    | none =>
      rw [hl] at this
      simp at this
      simp [this]
    | some y =>
      rw [hl] at this
      simp at this
      simp [this]
  have e1 : takeCode me N r L es = rtakeCode me N r A es := by unfold takeCode rtakeCode; rw [hc, hst]
  refine ⟨e1, ?_⟩
  unfold takeNext rtakeNext
  rw [e1]
  by_cases h0 : rtakeCode me N r A es = 0
  · simp only [if_pos h0]
    unfold rtakeCode at h0
    split at h0
    · cases h0
    · rename_i g1
      split at h0
      · cases h0
      · rename_i g2
        split at h0
        · cases h0
        · rename_i g3
          have hdg : Dig es := dgB_iff.1 (by simpa using g3)
          obtain ⟨a, b, c⟩ := AgC.fold (me := me) (fun e => g1 (Or.inr (Or.inr e))) es L A 0 hdg.1 h
          exact ⟨a, b, Nat.le_trans c (by omega)⟩
  · simp only [if_neg h0]
    exact ⟨trivial, h, by omega⟩
end
end Go.Proofs.YtnphkmdanicemaaGreatDoor
