import Derived.Test.YtnphkmdanicemaaGreatDoorJP
import Derived.Deep.Cut
namespace Go.Proofs.YtnphkmdanicemaaGreatDoor
open Go.RowKit Go.PlainAid Go.MapKept
set_option linter.unusedVariables false
set_option linter.unusedSimpArgs false
def sameV (a b : Ent) : Bool := a.n == b.n && a.c == b.c && a.rc == b.rc && a.v == b.v && a.d == b.d && a.u == b.u && a.h == b.h
set_option maxHeartbeats 2000000 in
set_option maxRecDepth 100000 in
theorem eql46 (a b : Ent) (w : World) : (binOp .eql 105 (viewV a) (viewV b)).run Tryz.prog w = .ok (.bool (sameV a b)) w := by
  unfold viewV sameV
  simp [go_sem]
  by_cases h1 : a.n = b.n
  · by_cases h2 : a.c = b.c
    · by_cases h3 : a.rc = b.rc
      · by_cases h4 : a.v = b.v
        · by_cases h5 : a.d = b.d
          · by_cases h6 : a.u = b.u
            · by_cases h7 : a.h = b.h <;> simp [h1, h2, h3, h4, h5, h6, h7]
            · simp [h1, h2, h3, h4, h5, h6]
          · simp [h1, h2, h3, h4, h5]
        · simp [h1, h2, h3, h4]
      · simp [h1, h2, h3]
    · simp [h1, h2]
  · simp [h1]
theorem eqg46 (x y : Operand) (a b : Ent) (w : World) : Sem.run Tryz.prog (eqGuard .eql 105 x y (viewV a) (viewV b)) w = .ok () w := by
  unfold viewV
  first | kernel_rfl | simp [go_sem, eqGuard] | (unfold eqGuard; simp [go_sem])
def tellCode (me : Int) (L : List Ent) (e : Ent) : Int := if e.right = false then 1 else if (look me e.n L).isSome = true then 0 else if 64 ≤ cntR me L then 102 else 0
def tellNext (me : Int) (L : List Ent) (e : Ent) : List Ent := if e.right = false then L else if (look me e.n L).isSome = true then (if sameV { e with v := (lookD me e.n L).v } (lookD me e.n L) = true then L else putE { e with r := me, v := (lookD me e.n L).v + 1 } L) else if 64 ≤ cntR me L then L else putE { e with r := me } L
set_option maxRecDepth 100000 in
set_option maxHeartbeats 6400000 in
theorem tell_any {hb mb : Nat} {me M : Int} {L : List Ent} (n : List UInt8) (c rc d u h : Int) (w : World) (hV : Vw hb mb me M L w) (hL : L.length ≤ 100000) (hs : (Ent.mk me n c rc 1 d u h).sane) (hv : ∀ e ∈ L, 1 ≤ e.v ∧ e.v ≤ 1000000) :
    Calls Tryz.prog 24 #[.pointer (some ⟨hb, 0, none⟩), .string ⟨n.toArray⟩, .int .i64 c, .int .i64 rc, .agg #[.int .i64 d, .int .i64 u], .int .i64 h] w fun q w' => q = .returned (.int .i64 (tellCode me L ⟨me, n, c, rc, 1, d, u, h⟩)) ∧ Vw hb mb me M (tellNext me L ⟨me, n, c, rc, 1, d, u, h⟩) w' ∧ Chg (fun k => k = mb) w w' := by
  obtain ⟨e1, he1⟩ : ∃ e : Ent, e = ⟨me, n, c, rc, 1, d, u, h⟩ := ⟨_, rfl⟩
  have HV0 : Hid _ := hV
  have HRA : Hid (∀ w, _) := fun w => right_any ⟨me, n, c, rc, 1, d, u, h⟩ w hs
  have HVV : Hid _ := hv
  have hnl := hs.n
  simp only at hnl
  clear hV hv hs
  go_enter Tryz.func24, Tryz.ntmps24
  go_wp2_with fail
  refine Calls.mono (HRA.out _) ?_
  rintro e w2 ⟨rfl, hb2⟩
  have hg0 : Below w.heap.size w ((w.alloc (.cells #[.int .i64 d, .int .i64 u] 37)).alloc (.cells #[.string ⟨n.toArray⟩, .int .i64 c, .int .i64 rc, .int .i64 (1), .int .i64 d, .int .i64 u, .int .i64 h] 105)) := ((Below.refl _ _).alloc (Nat.le_refl _) _).alloc (by simp) _
  have hbx0 : Blk ((w.alloc (.cells #[.int .i64 d, .int .i64 u] 37)).alloc (.cells #[.string ⟨n.toArray⟩, .int .i64 c, .int .i64 rc, .int .i64 (1), .int .i64 d, .int .i64 u, .int .i64 h] 105)) (w.heap.size + 1) #[.string ⟨n.toArray⟩, .int .i64 c, .int .i64 rc, .int .i64 (1), .int .i64 d, .int .i64 u, .int .i64 h] 105 := by
    have := heap_alloc_new (w.alloc (.cells #[.int .i64 d, .int .i64 u] 37)) (.cells #[.string ⟨n.toArray⟩, .int .i64 c, .int .i64 rc, .int .i64 (1), .int .i64 d, .int .i64 u, .int .i64 h] 105)
    rw [World.size_alloc] at this
    exact this
  have hbw2 : Below w.heap.size w w2 := hg0.trans (hb2.mono hg0.size)
  have hB2 : Blk w2 (w.heap.size + 1) #[.string ⟨n.toArray⟩, .int .i64 c, .int .i64 rc, .int .i64 (1), .int .i64 d, .int .i64 u, .int .i64 h] 105 := hbx0.below hb2 hbx0.lt
  have hnb : w.heap.size ≤ w.heap.size + 1 := by omega
  have HH := HV0.out.more hbw2
  have HBW : Hid _ := hbw2
  clear hb2 hg0 hbx0 hbw2 HRA HV0
  cases hrt : Ent.right ⟨me, n, c, rc, 1, d, u, h⟩ with
  | false =>
    have HCO : Hid (tellCode me L ⟨me, n, c, rc, 1, d, u, h⟩ = 1) := show tellCode me L ⟨me, n, c, rc, 1, d, u, h⟩ = 1 from by unfold tellCode; rw [if_pos hrt]
    have HNX : Hid (tellNext me L ⟨me, n, c, rc, 1, d, u, h⟩ = L) := show tellNext me L ⟨me, n, c, rc, 1, d, u, h⟩ = L from by unfold tellNext; rw [if_pos hrt]
    have HHH : Hid _ := HH
    clear HH hB2 hrt
    go_wp2_with fail
    go_ret
    exact ⟨ret_i64 HCO.out.symm, by rw [HNX.out]; exact HHH.out, Chg.ofBelow _ HBW.out⟩
  | true =>
    have HRT : Hid _ := hrt
    clear hrt
    have HLE : Hid (∃ l0, l0 = lookD me n L) := ⟨_, rfl⟩
    obtain ⟨l0, hl0⟩ := HLE.out
    obtain ⟨is0, his0⟩ : ∃ b, b = (look me n L).isSome := ⟨_, rfl⟩
    have HLK : ∀ wr, Vw hb mb me M L wr → (Instr.lookup 96 (.map (some mb)) (.agg #[.int .i64 me, .string ⟨n.toArray⟩]) true).run Tryz.prog wr = .ok (.tuple #[.agg #[.string ⟨l0.n.toArray⟩, .int .i64 l0.c, .int .i64 l0.rc, .int .i64 l0.v, .int .i64 l0.d, .int .i64 l0.u, .int .i64 l0.h], .bool is0]) wr := fun wr hw => by
      have := hw.map.look_ok me n true
      rw [← hl0, ← his0] at this
      exact this
    have HL0 : Hid _ := hl0
    have HIS : Hid _ := his0
    clear hl0 his0 HLE
    obtain ⟨bx, hbx⟩ : ∃ bx, bx = w.heap.size + 1 := ⟨_, rfl⟩
    rw [← hbx] at hB2 ⊢
    have hbw : w.heap.size ≤ bx := by omega
    have HBXW : Hid _ := hbw
    clear hnb hbx hbw
    generalize w2 = X at *
    have hBX := hB2
    go_wp2_with fail
    rename_i K hK
    try rw [show ∀ a : Act, a.put none undef = a from fun _ => rfl]
    refine wp_region_mix (fun wq => Below X.heap.size X wq) (fun i => i == 14 || i == 15 || i == 99) 99 (by kernel_rfl) rfl (by kernel_rfl) (by kernel_rfl) (by kernel_rfl) ?_
    refine withFrP (N := 64) rfl ?_
    intro f0 F0 hff
    have e0 : f0 0 = Value.pointer (some ⟨hb, 0, none⟩) := hff 0
    have e1 : f0 1 = Value.string ⟨n.toArray⟩ := hff 1
    have e13 : f0 13 = Value.pointer (some ⟨bx, 0, none⟩) := hff 13
    clear hff
    have HCC : (fun wq => Below X.heap.size X wq) (({ X with drawn := X.drawn + 1 } : World)) := (Below.drew (Below.refl X.heap.size X))
    have VH : ∀ wr, Below X.heap.size X wr → Vw hb mb me M L wr := fun wr hw => ⟨HH.blk.below hw HH.blk.lt, HH.map.same (hw.block mb HH.map.lt)⟩
    have HC2 : (fun wq => Below X.heap.size X wq) (({ X with drawn := X.drawn + 1 } : World).alloc (.cells #[.string ⟨#[]⟩, .int .i64 0, .int .i64 0, .int .i64 0, .int .i64 0, .int .i64 0, .int .i64 0] 105)) := HCC.alloc (Nat.le_refl _) _
    have HC3 : (fun wq => Below X.heap.size X wq) (({ X with drawn := X.drawn + 1 } : World).alloc (.cells #[.string ⟨l0.n.toArray⟩, .int .i64 l0.c, .int .i64 l0.rc, .int .i64 l0.v, .int .i64 l0.d, .int .i64 l0.u, .int .i64 l0.h] 105)) := HCC.alloc (Nat.le_refl _) _
    refine lyp F0 rfl HCC rfl (by omega) (wanted_none rfl) (v := Value.pointer (some ⟨hb, 0, none⟩)) (fun wr hwr => by simp only [execOp, (F0.eval 0 (by omega)).trans (show _ = Value.pointer (some ⟨hb, 0, none⟩) from by simp [upd, e0, e1, e13])]; first | rfl | simp [go_sem]) fun F1 => ?_
    refine lyp F1 rfl HCC rfl (by omega) (wanted_none rfl) (v := Value.pointer (some ⟨hb, 0, none⟩)) (fun wr hwr => by simp only [execOp, (F1.eval 26 (by omega)).trans (show _ = Value.pointer (some ⟨hb, 0, none⟩) from by simp [upd, e0, e1, e13])]; simp [go_sem]) fun F2 => ?_
    refine lyp F2 rfl HCC rfl (by omega) (wanted_none rfl) (v := Value.pointer (some ⟨hb, 2, none⟩)) (fun wr hwr => by simp only [execOp, (F2.eval 27 (by omega)).trans (show _ = Value.pointer (some ⟨hb, 0, none⟩) from by simp [upd, e0, e1, e13])]; simp [go_sem]) fun F3 => ?_
    refine lyp F3 rfl HCC rfl (by omega) (wanted_none rfl) (v := Value.map (some mb)) (fun wr hwr => by simp only [execOp, (F3.eval 28 (by omega)).trans (show _ = Value.pointer (some ⟨hb, 2, none⟩) from by simp [upd, e0, e1, e13])]; simp [go_sem, (VH wr hwr).c2]) fun F4 => ?_
    refine lyp F4 rfl HCC rfl (by omega) (wanted_none rfl) (v := Value.pointer (some ⟨hb, 0, none⟩)) (fun wr hwr => by simp only [execOp, (F4.eval 0 (by omega)).trans (show _ = Value.pointer (some ⟨hb, 0, none⟩) from by simp [upd, e0, e1, e13])]; first | rfl | simp [go_sem]) fun F5 => ?_
    refine lyp F5 rfl HCC rfl (by omega) (wanted_none rfl) (v := Value.pointer (some ⟨hb, 0, none⟩)) (fun wr hwr => by simp only [execOp, (F5.eval 30 (by omega)).trans (show _ = Value.pointer (some ⟨hb, 0, none⟩) from by simp [upd, e0, e1, e13])]; simp [go_sem]) fun F6 => ?_
    refine lyp F6 rfl HCC rfl (by omega) (wanted_none rfl) (v := Value.pointer (some ⟨hb, 0, none⟩)) (fun wr hwr => by simp only [execOp, (F6.eval 31 (by omega)).trans (show _ = Value.pointer (some ⟨hb, 0, none⟩) from by simp [upd, e0, e1, e13])]; simp [go_sem]) fun F7 => ?_
    refine lyp F7 rfl HCC rfl (by omega) (wanted_none rfl) (v := Value.int .i64 me) (fun wr hwr => by simp only [execOp, (F7.eval 32 (by omega)).trans (show _ = Value.pointer (some ⟨hb, 0, none⟩) from by simp [upd, e0, e1, e13])]; simp [go_sem, (VH wr hwr).c0]) fun F8 => ?_
    refine lyp F8 rfl HCC rfl (by omega) (wanted_none rfl) (v := Value.string ⟨n.toArray⟩) (fun wr hwr => by simp only [execOp, (F8.eval 1 (by omega)).trans (show _ = Value.string ⟨n.toArray⟩ from by simp [upd, e0, e1, e13])]; first | rfl | simp [go_sem]) fun F9 => ?_
    refine lyp F9 rfl HCC rfl (by omega) (wanted_none rfl) (v := Value.agg #[.int .i64 me, .string ⟨n.toArray⟩]) (fun wr hwr => by simp only [execOp, (F9.eval 33 (by omega)).trans (show _ = Value.int .i64 me from by simp [upd, e0, e1, e13]), (F9.eval 34 (by omega)).trans (show _ = Value.string ⟨n.toArray⟩ from by simp [upd, e0, e1, e13])]; simp [go_sem, Act.eval]) fun F10 => ?_
    refine lyp F10 rfl HCC rfl (by omega) (wanted_none rfl) (v := Value.tuple #[.agg #[.string ⟨l0.n.toArray⟩, .int .i64 l0.c, .int .i64 l0.rc, .int .i64 l0.v, .int .i64 l0.d, .int .i64 l0.u, .int .i64 l0.h], .bool is0]) (fun wr hwr => by simp only [execOp, (F10.eval 29 (by omega)).trans (show _ = Value.map (some mb) from by simp [upd, e0, e1, e13]), (F10.eval 35 (by omega)).trans (show _ = Value.agg #[.int .i64 me, .string ⟨n.toArray⟩] from by simp [upd, e0, e1, e13])]; simp [go_sem, HLK wr (VH wr hwr)]) fun F11 => ?_
    refine lyp F11 rfl HCC rfl (by omega) (wanted_none rfl) (v := Value.tuple #[.agg #[.string ⟨l0.n.toArray⟩, .int .i64 l0.c, .int .i64 l0.rc, .int .i64 l0.v, .int .i64 l0.d, .int .i64 l0.u, .int .i64 l0.h], .bool is0]) (fun wr hwr => by simp only [execOp, (F11.eval 36 (by omega)).trans (show _ = Value.tuple #[.agg #[.string ⟨l0.n.toArray⟩, .int .i64 l0.c, .int .i64 l0.rc, .int .i64 l0.v, .int .i64 l0.d, .int .i64 l0.u, .int .i64 l0.h], .bool is0] from by simp [upd, e0, e1, e13])]; first | rfl | simp [go_sem]) fun F12 => ?_
    refine lyp F12 rfl HCC rfl (by omega) (wanted_none rfl) (v := Value.agg #[.string ⟨l0.n.toArray⟩, .int .i64 l0.c, .int .i64 l0.rc, .int .i64 l0.v, .int .i64 l0.d, .int .i64 l0.u, .int .i64 l0.h]) (fun wr hwr => by simp only [execOp, (F12.eval 25 (by omega)).trans (show _ = Value.tuple #[.agg #[.string ⟨l0.n.toArray⟩, .int .i64 l0.c, .int .i64 l0.rc, .int .i64 l0.v, .int .i64 l0.d, .int .i64 l0.u, .int .i64 l0.h], .bool is0] from by simp [upd, e0, e1, e13])]; simp [go_sem]) fun F13 => ?_
    refine lyp F13 rfl HCC rfl (by omega) (wanted_none rfl) (v := Value.bool is0) (fun wr hwr => by simp only [execOp, (F13.eval 25 (by omega)).trans (show _ = Value.tuple #[.agg #[.string ⟨l0.n.toArray⟩, .int .i64 l0.c, .int .i64 l0.rc, .int .i64 l0.v, .int .i64 l0.d, .int .i64 l0.u, .int .i64 l0.h], .bool is0] from by simp [upd, e0, e1, e13])]; simp [go_sem]) fun F14 => ?_
    refine lep F14 rfl HCC rfl (by omega) (wanted_none rfl) (v := Value.pointer (some ⟨X.heap.size, 0, none⟩)) (w1 := ({ X with drawn := X.drawn + 1 } : World).alloc (.cells #[.string ⟨#[]⟩, .int .i64 0, .int .i64 0, .int .i64 0, .int .i64 0, .int .i64 0, .int .i64 0] 105)) (by simp only [execOp]; simp [go_sem, zero46, zed, viewV]) fun F15 => ?_
    refine lst rfl HC2 rfl (wanted_none rfl) (w1 := ({ X with drawn := X.drawn + 1 } : World).alloc (.cells #[.string ⟨l0.n.toArray⟩, .int .i64 l0.c, .int .i64 l0.rc, .int .i64 l0.v, .int .i64 l0.d, .int .i64 l0.u, .int .i64 l0.h] 105)) (by simp only [execOp, (F15.eval 14 (by omega)).trans (show _ = Value.pointer (some ⟨X.heap.size, 0, none⟩) from by simp [upd, e0, e1, e13]), (F15.eval 37 (by omega)).trans (show _ = Value.agg #[.string ⟨l0.n.toArray⟩, .int .i64 l0.c, .int .i64 l0.rc, .int .i64 l0.v, .int .i64 l0.d, .int .i64 l0.u, .int .i64 l0.h] from by simp [upd, e0, e1, e13])]; simp [go_sem]) ?_
    refine lyp F15 rfl HC3 rfl (by omega) (wanted_none rfl) (v := Value.bool is0) (fun wr hwr => by simp only [execOp, (F15.eval 38 (by omega)).trans (show _ = Value.bool is0 from by simp [upd, e0, e1, e13])]; first | rfl | simp [go_sem]) fun F16 => ?_
    refine ⟨fun _ => HC3, ?_⟩
    refine hK _ _ ?_
    clear F0 F1 F2 F3 F4 F5 F6 F7 F8 F9 F10 F11 F12 F13 F14 F15 F16 e0 e1 e13 HCC VH HC2 HC3
    simp only [Act.put, List.setIfInBounds_toArray, List.set_cons_succ, List.set_cons_zero]
    have hgl : Below X.heap.size X (({ X with drawn := X.drawn + 1 } : World).alloc (.cells #[.string ⟨l0.n.toArray⟩, .int .i64 l0.c, .int .i64 l0.rc, .int .i64 l0.v, .int .i64 l0.d, .int .i64 l0.u, .int .i64 l0.h] 105)) := (Below.drew (Below.refl X.heap.size X)).alloc (Nat.le_refl _) _
    have hlb : Blk (({ X with drawn := X.drawn + 1 } : World).alloc (.cells #[.string ⟨l0.n.toArray⟩, .int .i64 l0.c, .int .i64 l0.rc, .int .i64 l0.v, .int .i64 l0.d, .int .i64 l0.u, .int .i64 l0.h] 105)) X.heap.size #[.string ⟨l0.n.toArray⟩, .int .i64 l0.c, .int .i64 l0.rc, .int .i64 l0.v, .int .i64 l0.d, .int .i64 l0.u, .int .i64 l0.h] 105 := heap_alloc_new ({ X with drawn := X.drawn + 1 } : World) _
    have hbxl : bx ≠ X.heap.size := Nat.ne_of_lt hB2.lt
    have HH4 := HH.more hgl
    have hB4 : Blk (({ X with drawn := X.drawn + 1 } : World).alloc (.cells #[.string ⟨l0.n.toArray⟩, .int .i64 l0.c, .int .i64 l0.rc, .int .i64 l0.v, .int .i64 l0.d, .int .i64 l0.u, .int .i64 l0.h] 105)) bx #[.string ⟨n.toArray⟩, .int .i64 c, .int .i64 rc, .int .i64 (1), .int .i64 d, .int .i64 u, .int .i64 h] 105 := hB2.below hgl hB2.lt
    have HBW4 : Hid (Below w.heap.size w (({ X with drawn := X.drawn + 1 } : World).alloc (.cells #[.string ⟨l0.n.toArray⟩, .int .i64 l0.c, .int .i64 l0.rc, .int .i64 l0.v, .int .i64 l0.d, .int .i64 l0.u, .int .i64 l0.h] 105))) := HBW.out.trans (hgl.mono HBW.out.size)
    have hlw : w.heap.size ≤ X.heap.size := HBW.out.size
    clear HH hB2 hBX hgl HBW HLK
    generalize (({ X with drawn := X.drawn + 1 } : World).alloc (.cells #[.string ⟨l0.n.toArray⟩, .int .i64 l0.c, .int .i64 l0.rc, .int .i64 l0.v, .int .i64 l0.d, .int .i64 l0.u, .int .i64 l0.h] 105)) = X4 at *
    obtain ⟨lb, hlbe⟩ : ∃ lb, lb = X.heap.size := ⟨_, rfl⟩
    rw [← hlbe] at hlb hbxl hlw ⊢
    clear hlbe
    cases is0 with
    | false =>
      have k0 := HH4.c0
      have HSP : Hid _ := spoken_any me X4 HH4 hL
      have HHH : Hid _ := HH4
      have HB4 : Hid _ := hB4
      clear HH4 hB4 hlb
      go_wp2_with fail
      refine Calls.mono HSP.out ?_
      rintro e w5 ⟨rfl, hb5⟩
      have HBY : Hid (Below w.heap.size w w5) := HBW4.out.trans (hb5.mono HBW4.out.size)
      by_cases hcn : 64 ≤ cntR me L
      · have HCO : Hid (tellCode me L ⟨me, n, c, rc, 1, d, u, h⟩ = 102) := show tellCode me L ⟨me, n, c, rc, 1, d, u, h⟩ = 102 from by
          unfold tellCode
          rw [if_neg (show ¬ _ = false by rw [HRT.out]; simp), if_neg (show ¬ (look me n L).isSome = true by rw [← HIS.out]; simp), if_pos hcn]
        have HNX : Hid (tellNext me L ⟨me, n, c, rc, 1, d, u, h⟩ = L) := show tellNext me L ⟨me, n, c, rc, 1, d, u, h⟩ = L from by
          unfold tellNext
          rw [if_neg (show ¬ _ = false by rw [HRT.out]; simp), if_neg (show ¬ (look me n L).isSome = true by rw [← HIS.out]; simp), if_pos hcn]
        have HH5 : Hid _ := HHH.out.more hb5
        have hc2 : (64 : Int) ≤ (cntR me L : Nat) := by omega
        clear hb5
        go_wp2_with fail
        go_ret
        exact ⟨ret_i64 HCO.out.symm, by rw [HNX.out]; exact HH5.out, Chg.ofBelow _ HBY.out⟩
      · have HCO : Hid (tellCode me L ⟨me, n, c, rc, 1, d, u, h⟩ = 0) := show tellCode me L ⟨me, n, c, rc, 1, d, u, h⟩ = 0 from by
          unfold tellCode
          rw [if_neg (show ¬ _ = false by rw [HRT.out]; simp), if_neg (show ¬ (look me n L).isSome = true by rw [← HIS.out]; simp), if_neg hcn]
        have HNX : Hid (tellNext me L ⟨me, n, c, rc, 1, d, u, h⟩ = putE ⟨me, n, c, rc, 1, d, u, h⟩ L) := show tellNext me L ⟨me, n, c, rc, 1, d, u, h⟩ = putE ⟨me, n, c, rc, 1, d, u, h⟩ L from by
          unfold tellNext
          rw [if_neg (show ¬ _ = false by rw [HRT.out]; simp), if_neg (show ¬ (look me n L).isSome = true by rw [← HIS.out]; simp), if_neg hcn]
        have HH := HHH.out.more hb5
        have HVB : VAt w5 bx 0 ⟨me, n, c, rc, 1, d, u, h⟩ := box_cells (e := ⟨me, n, c, rc, 1, d, u, h⟩) (Blk.below HB4.out hb5 (Blk.lt HB4.out))
        have hc2 : ¬ (64 : Int) ≤ (cntR me L : Nat) := by omega
        clear hb5 HHH HB4 HSP
        go_wp2_with fail
        rename_i K hK
        try rw [show ∀ a : Act, a.put none undef = a from fun _ => rfl]
        refine wp_region_mix (fun wq => Below w5.heap.size w5 wq) (fun i => i == 6) 6 (by kernel_rfl) rfl (by kernel_rfl) (by kernel_rfl) (by kernel_rfl) ?_
        refine withFrP (N := 64) rfl ?_
        intro f0 F0 hff
        have e0 : f0 0 = Value.pointer (some ⟨hb, 0, none⟩) := hff 0
        have e13 : f0 13 = Value.pointer (some ⟨bx, 0, none⟩) := hff 13
        clear hff
        have HCC : (fun wq => Below w5.heap.size w5 wq) (({ w5 with drawn := w5.drawn + 1 } : World)) := (Below.drew (Below.refl w5.heap.size w5))
        have VH : ∀ wr, Below w5.heap.size w5 wr → Vw hb mb me M L wr := fun wr hw => ⟨HH.blk.below hw HH.blk.lt, HH.map.same (hw.block mb HH.map.lt)⟩
        have VB : ∀ wr, Below w5.heap.size w5 wr → VAt wr bx 0 ⟨me, n, c, rc, 1, d, u, h⟩ := fun wr hw => HVB.keep (hw.block bx HVB.lt)
        refine lyp F0 rfl HCC rfl (by omega) (wanted_none rfl) (v := Value.pointer (some ⟨hb, 0, none⟩)) (fun wr hwr => by simp only [execOp, (F0.eval 0 (by omega)).trans (show _ = Value.pointer (some ⟨hb, 0, none⟩) from by simp [upd, e0, e13])]; first | rfl | simp [go_sem]) fun F1 => ?_
        refine lyp F1 rfl HCC rfl (by omega) (wanted_none rfl) (v := Value.pointer (some ⟨hb, 0, none⟩)) (fun wr hwr => by simp only [execOp, (F1.eval 0 (by omega)).trans (show _ = Value.pointer (some ⟨hb, 0, none⟩) from by simp [upd, e0, e13])]; first | rfl | simp [go_sem]) fun F2 => ?_
        refine lyp F2 rfl HCC rfl (by omega) (wanted_none rfl) (v := Value.pointer (some ⟨hb, 0, none⟩)) (fun wr hwr => by simp only [execOp, (F2.eval 58 (by omega)).trans (show _ = Value.pointer (some ⟨hb, 0, none⟩) from by simp [upd, e0, e13])]; simp [go_sem]) fun F3 => ?_
        refine lyp F3 rfl HCC rfl (by omega) (wanted_none rfl) (v := Value.pointer (some ⟨hb, 0, none⟩)) (fun wr hwr => by simp only [execOp, (F3.eval 59 (by omega)).trans (show _ = Value.pointer (some ⟨hb, 0, none⟩) from by simp [upd, e0, e13])]; simp [go_sem]) fun F4 => ?_
        refine lyp F4 rfl HCC rfl (by omega) (wanted_none rfl) (v := Value.int .i64 me) (fun wr hwr => by simp only [execOp, (F4.eval 60 (by omega)).trans (show _ = Value.pointer (some ⟨hb, 0, none⟩) from by simp [upd, e0, e13])]; simp [go_sem, (VH wr hwr).c0]) fun F5 => ?_
        refine lyp F5 rfl HCC rfl (by omega) (wanted_none rfl) (v := Value.agg #[.string ⟨n.toArray⟩, .int .i64 c, .int .i64 rc, .int .i64 (1), .int .i64 d, .int .i64 u, .int .i64 h]) (fun wr hwr => by simp only [execOp, (F5.eval 13 (by omega)).trans (show _ = Value.pointer (some ⟨bx, 0, none⟩) from by simp [upd, e0, e13])]; simp [go_sem, (VB wr hwr).c0, (VB wr hwr).c1, (VB wr hwr).c2, (VB wr hwr).c3, (VB wr hwr).c4, (VB wr hwr).c5, (VB wr hwr).c6]) fun F6 => ?_
        refine lcp F6 rfl HCC rfl (by omega) (wanted_none rfl) (g := 49) (args := #[Value.pointer (some ⟨hb, 0, none⟩), Value.int .i64 me, Value.agg #[.string ⟨n.toArray⟩, .int .i64 c, .int .i64 rc, .int .i64 (1), .int .i64 d, .int .i64 u, .int .i64 h]]) (by simp only [execOp, resolve, invoke, List.map_toArray, List.map_cons, List.map_nil, (F6.eval 57 (by omega)).trans (show _ = Value.pointer (some ⟨hb, 0, none⟩) from by simp [upd, e0, e13]), (F6.eval 61 (by omega)).trans (show _ = Value.int .i64 me from by simp [upd, e0, e13]), (F6.eval 62 (by omega)).trans (show _ = Value.agg #[.string ⟨n.toArray⟩, .int .i64 c, .int .i64 rc, .int .i64 (1), .int .i64 d, .int .i64 u, .int .i64 h] from by simp [upd, e0, e13])]; simp [go_sem, Act.eval]) (keep_any me ⟨me, n, c, rc, 1, d, u, h⟩ (({ w5 with drawn := w5.drawn + 1 } : World)) (VH _ HCC) hnl) ?_
        rintro e w9 ⟨rfl, hV9, hc9⟩
        refine ⟨_, rfl, fun F7 => ?_⟩
        refine ⟨fun h => by omega, ?_⟩
        refine hK _ _ ?_
        clear F0 F1 F2 F3 F4 F5 F6 F7 e0 e13 HCC VH VB
        simp only [Act.put, List.setIfInBounds_toArray, List.set_cons_succ, List.set_cons_zero]
        have HV9 : Hid _ := hV9
        have HC9 : Hid (Chg (fun k => k = mb) w w9) := ((Chg.ofBelow (fun k => k = mb) HBY.out).drewN 1).trans hc9 (fun _ _ e => e)
        clear hV9 hc9
        go_wp2_with fail
        go_ret
        exact ⟨ret_i64 HCO.out.symm, by rw [HNX.out]; exact HV9.out, HC9.out⟩
    | true =>
      have q0 : VAt X4 lb 0 l0 := box_cells (e := l0) hlb
      have z3' := q0.c3
      have fz := hB4.frozen 3
      have hl1 : l0 ∈ L := by
        have h1 := HIS.out
        have h2 := HL0.out
        unfold lookD at h2
        cases hq : look me n L with
        | none => rw [hq] at h1; cases h1
        | some y => rw [hq] at h2; rw [h2]; exact List.mem_of_find?_eq_some hq
      have hvr := HVV.out l0 hl1
      have HBC : Hid (Below w.heap.size X4 (X4.setCell ⟨bx, 3, none⟩ (.int .i64 l0.v))) := ⟨rfl, rfl, rfl, by simp [World.setCell], fun k hk => Below.heap_setCell _ _ _ _ (by have := HBXW.out; exact Nat.ne_of_lt (Nat.lt_of_lt_of_le hk this))⟩
      have hch : Chg (fun k => k = bx) X4 (X4.setCell ⟨bx, 3, none⟩ (.int .i64 l0.v)) := ⟨rfl, rfl, rfl, by simp [World.setCell], fun k hk hn => Below.heap_setCell _ _ _ _ hn⟩
      have hhb : hb ≠ bx := HH4.blk.ne_t hB4 (by decide)
      have hmb : mb ≠ bx := fun e => HH4.map.ne_b hB4 e.symm
      have HH5 : Hid _ := HH4.keep hch hhb hmb
      have hB5 : Blk (X4.setCell ⟨bx, 3, none⟩ (.int .i64 l0.v)) bx #[.string ⟨n.toArray⟩, .int .i64 c, .int .i64 rc, .int .i64 (l0.v), .int .i64 d, .int .i64 u, .int .i64 h] 105 := hB4.set 3 (.int .i64 l0.v)
      have hl5 : Blk (X4.setCell ⟨bx, 3, none⟩ (.int .i64 l0.v)) lb #[.string ⟨l0.n.toArray⟩, .int .i64 l0.c, .int .i64 l0.rc, .int .i64 l0.v, .int .i64 l0.d, .int .i64 l0.u, .int .i64 l0.h] 105 := hch.blk hlb (fun e => hbxl e.symm)
      have HB5 : Hid _ := hB5
      have cz : X4.cell? ⟨bx, 3, none⟩ = some (.int .i64 1) := hB4.cell 3
      obtain ⟨y0, y1, y2, y3, y4, y5, y6⟩ := box_cells (e := ⟨me, n, c, rc, l0.v, d, u, h⟩) hB5
      obtain ⟨z0, z1, z2, z3, z4, z5, z6⟩ := box_cells (e := l0) hl5
      simp only [Nat.zero_add] at z3' y0 y1 y2 y3 y4 y5 y6 z0 z1 z2 z3 z4 z5 z6
      obtain ⟨bb, hbb⟩ : ∃ bb, bb = sameV ⟨me, n, c, rc, l0.v, d, u, h⟩ l0 := ⟨_, rfl⟩
      have HEQ : (binOp .eql 105 (.agg #[.string ⟨n.toArray⟩, .int .i64 c, .int .i64 rc, .int .i64 (l0.v), .int .i64 d, .int .i64 u, .int .i64 h]) (.agg #[.string ⟨l0.n.toArray⟩, .int .i64 l0.c, .int .i64 l0.rc, .int .i64 l0.v, .int .i64 l0.d, .int .i64 l0.u, .int .i64 l0.h])).run Tryz.prog (X4.setCell ⟨bx, 3, none⟩ (.int .i64 l0.v)) = .ok (.bool bb) (X4.setCell ⟨bx, 3, none⟩ (.int .i64 l0.v)) := by rw [hbb]; exact eql46 ⟨me, n, c, rc, l0.v, d, u, h⟩ l0 _
      have HBB : Hid _ := hbb
      clear q0 HH4 hB4 hlb hch hB5 hl5 hl1 hbb
      go_upto_region 7 with fail
      refine wp_region_lit ?_
      refine withFrS (N := 64) rfl ?_
      intro f0 F0 hff
      have hs13 : f0 13 = Value.pointer (some ⟨bx, 0, none⟩) := hff 13
      have hs14 : f0 14 = Value.pointer (some ⟨lb, 0, none⟩) := hff 14
      clear hff
      refine syp F0 rfl (by omega) (wanted_none rfl) (v := Value.agg #[.string ⟨n.toArray⟩, .int .i64 c, .int .i64 rc, .int .i64 (l0.v), .int .i64 d, .int .i64 u, .int .i64 h]) (by simp only [execOp, (F0.eval 13 (by omega)).trans (show _ = Value.pointer (some ⟨bx, 0, none⟩) from by simp [upd, hs13, hs14])]; simp [go_sem, Act.eval, y0, y1, y2, y3, y4, y5, y6]) fun F1 => ?_
      refine syp F1 rfl (by omega) (wanted_none rfl) (v := Value.agg #[.string ⟨l0.n.toArray⟩, .int .i64 l0.c, .int .i64 l0.rc, .int .i64 l0.v, .int .i64 l0.d, .int .i64 l0.u, .int .i64 l0.h]) (by simp only [execOp, (F1.eval 14 (by omega)).trans (show _ = Value.pointer (some ⟨lb, 0, none⟩) from by simp [upd, hs13, hs14])]; simp [go_sem, Act.eval, z0, z1, z2, z3, z4, z5, z6]) fun F2 => ?_
      refine syp F2 rfl (by omega) (wanted_none rfl) (v := Value.bool bb) (by simp only [execOp, (F2.eval 43 (by omega)).trans (show _ = Value.agg #[.string ⟨n.toArray⟩, .int .i64 c, .int .i64 rc, .int .i64 (l0.v), .int .i64 d, .int .i64 u, .int .i64 h] from by simp [upd, hs13, hs14]), (F2.eval 44 (by omega)).trans (show _ = Value.agg #[.string ⟨l0.n.toArray⟩, .int .i64 l0.c, .int .i64 l0.rc, .int .i64 l0.v, .int .i64 l0.d, .int .i64 l0.u, .int .i64 l0.h] from by simp [upd, hs13, hs14]), Sem.run_bind]; erw [eqg46 _ _ ⟨me, n, c, rc, l0.v, d, u, h⟩ l0]; simp only [Result.andThen_ok, HEQ]; rfl) fun F3 => ?_
      refine ⟨?_⟩
      clear F0 F1 F2 F3 hs13 hs14 
      simp only [Act.put, List.setIfInBounds_toArray, List.set_cons_succ, List.set_cons_zero]
      have HIF1 : Hid (¬ Ent.right ⟨me, n, c, rc, 1, d, u, h⟩ = false) := show ¬ Ent.right ⟨me, n, c, rc, 1, d, u, h⟩ = false from by rw [HRT.out]; simp
      have HIF2 : Hid ((look me n L).isSome = true) := HIS.out.symm
      clear y0 y1 y2 y4 y5 y6 z0 z1 z2 z4 z5 z6 HEQ cz
      cases bb with
      | true =>
        have HCO : Hid (tellCode me L ⟨me, n, c, rc, 1, d, u, h⟩ = 0) := show tellCode me L ⟨me, n, c, rc, 1, d, u, h⟩ = 0 from by
          unfold tellCode
          rw [if_neg HIF1.out, if_pos HIF2.out]
        have HNX : Hid (tellNext me L ⟨me, n, c, rc, 1, d, u, h⟩ = L) := show tellNext me L ⟨me, n, c, rc, 1, d, u, h⟩ = L from by
          unfold tellNext
          rw [if_neg HIF1.out, if_pos HIF2.out]
          simp only
          rw [← HL0.out, if_pos HBB.out.symm]
        clear y3 z3
        go_wp2_with fail
        go_ret
        exact ⟨ret_i64 HCO.out.symm, by rw [HNX.out]; exact HH5.out, Chg.ofBelow _ (HBW4.out.trans HBC.out)⟩
      | false =>
        have HCO : Hid (tellCode me L ⟨me, n, c, rc, 1, d, u, h⟩ = 0) := show tellCode me L ⟨me, n, c, rc, 1, d, u, h⟩ = 0 from by
          unfold tellCode
          rw [if_neg HIF1.out, if_pos HIF2.out]
        have HNX : Hid (tellNext me L ⟨me, n, c, rc, 1, d, u, h⟩ = putE ⟨me, n, c, rc, l0.v + 1, d, u, h⟩ L) := show tellNext me L ⟨me, n, c, rc, 1, d, u, h⟩ = putE ⟨me, n, c, rc, l0.v + 1, d, u, h⟩ L from by
          unfold tellNext
          rw [if_neg HIF1.out, if_pos HIF2.out]
          simp only
          rw [← HL0.out, if_neg (by rw [← HBB.out]; simp)]
        have HB6 : Hid (Below w.heap.size w (X4.setCell ⟨bx, 3, none⟩ (.int .i64 l0.v))) := HBW4.out.trans HBC.out
        clear HBC HBW4 z3 HBB HL0 HIS
        generalize X4.setCell ⟨bx, 3, none⟩ (.int .i64 l0.v) = X5 at *
        have fz5 := Blk.frozen HB5.out 3
        have hw : IntKind.i64.wrap (l0.v + 1) = l0.v + 1 := by rw [IntKind.wrap_i64]; omega
        have hch6 : Chg (fun k => k = bx) X5 (X5.setCell ⟨bx, 3, none⟩ (.int .i64 (l0.v + 1))) := ⟨rfl, rfl, rfl, by simp [World.setCell], fun k hk hn => Below.heap_setCell _ _ _ _ hn⟩
        have HH := HH5.out.keep hch6 hhb hmb
        have HVB : VAt (X5.setCell ⟨bx, 3, none⟩ (.int .i64 (l0.v + 1))) bx 0 ⟨me, n, c, rc, l0.v + 1, d, u, h⟩ := box_cells (e := ⟨me, n, c, rc, l0.v + 1, d, u, h⟩) (Blk.set HB5.out 3 (.int .i64 (l0.v + 1)))
        have HBY : Hid (Below w.heap.size w (X5.setCell ⟨bx, 3, none⟩ (.int .i64 (l0.v + 1)))) := HB6.out.trans ⟨rfl, rfl, rfl, by simp [World.setCell], fun k hk => Below.heap_setCell _ _ _ _ (by have := HBXW.out; exact Nat.ne_of_lt (Nat.lt_of_lt_of_le hk this))⟩
        clear hch6 HH5 HB5 HB6 hhb hmb
        go_wp2_with fail
        clear y3 fz5 fz
        generalize X5.setCell ⟨bx, 3, none⟩ (.int .i64 (l0.v + 1)) = X6 at *
        rename_i K hK
        try rw [show ∀ a : Act, a.put none undef = a from fun _ => rfl]
        refine wp_region_mix (fun wq => Below X6.heap.size X6 wq) (fun i => i == 6) 6 (by kernel_rfl) rfl (by kernel_rfl) (by kernel_rfl) (by kernel_rfl) ?_
        refine withFrP (N := 64) rfl ?_
        intro f0 F0 hff
        have e0 : f0 0 = Value.pointer (some ⟨hb, 0, none⟩) := hff 0
        have e13 : f0 13 = Value.pointer (some ⟨bx, 0, none⟩) := hff 13
        clear hff
        have HCC : (fun wq => Below X6.heap.size X6 wq) (({ X6 with drawn := X6.drawn + 1 } : World)) := (Below.drew (Below.refl X6.heap.size X6))
        have VH : ∀ wr, Below X6.heap.size X6 wr → Vw hb mb me M L wr := fun wr hw => ⟨HH.blk.below hw HH.blk.lt, HH.map.same (hw.block mb HH.map.lt)⟩
        have VB : ∀ wr, Below X6.heap.size X6 wr → VAt wr bx 0 ⟨me, n, c, rc, l0.v + 1, d, u, h⟩ := fun wr hw => HVB.keep (hw.block bx HVB.lt)
        refine lyp F0 rfl HCC rfl (by omega) (wanted_none rfl) (v := Value.pointer (some ⟨hb, 0, none⟩)) (fun wr hwr => by simp only [execOp, (F0.eval 0 (by omega)).trans (show _ = Value.pointer (some ⟨hb, 0, none⟩) from by simp [upd, e0, e13])]; first | rfl | simp [go_sem]) fun F1 => ?_
        refine lyp F1 rfl HCC rfl (by omega) (wanted_none rfl) (v := Value.pointer (some ⟨hb, 0, none⟩)) (fun wr hwr => by simp only [execOp, (F1.eval 0 (by omega)).trans (show _ = Value.pointer (some ⟨hb, 0, none⟩) from by simp [upd, e0, e13])]; first | rfl | simp [go_sem]) fun F2 => ?_
        refine lyp F2 rfl HCC rfl (by omega) (wanted_none rfl) (v := Value.pointer (some ⟨hb, 0, none⟩)) (fun wr hwr => by simp only [execOp, (F2.eval 58 (by omega)).trans (show _ = Value.pointer (some ⟨hb, 0, none⟩) from by simp [upd, e0, e13])]; simp [go_sem]) fun F3 => ?_
        refine lyp F3 rfl HCC rfl (by omega) (wanted_none rfl) (v := Value.pointer (some ⟨hb, 0, none⟩)) (fun wr hwr => by simp only [execOp, (F3.eval 59 (by omega)).trans (show _ = Value.pointer (some ⟨hb, 0, none⟩) from by simp [upd, e0, e13])]; simp [go_sem]) fun F4 => ?_
        refine lyp F4 rfl HCC rfl (by omega) (wanted_none rfl) (v := Value.int .i64 me) (fun wr hwr => by simp only [execOp, (F4.eval 60 (by omega)).trans (show _ = Value.pointer (some ⟨hb, 0, none⟩) from by simp [upd, e0, e13])]; simp [go_sem, (VH wr hwr).c0]) fun F5 => ?_
        refine lyp F5 rfl HCC rfl (by omega) (wanted_none rfl) (v := Value.agg #[.string ⟨n.toArray⟩, .int .i64 c, .int .i64 rc, .int .i64 (l0.v + 1), .int .i64 d, .int .i64 u, .int .i64 h]) (fun wr hwr => by simp only [execOp, (F5.eval 13 (by omega)).trans (show _ = Value.pointer (some ⟨bx, 0, none⟩) from by simp [upd, e0, e13])]; simp [go_sem, (VB wr hwr).c0, (VB wr hwr).c1, (VB wr hwr).c2, (VB wr hwr).c3, (VB wr hwr).c4, (VB wr hwr).c5, (VB wr hwr).c6]) fun F6 => ?_
        refine lcp F6 rfl HCC rfl (by omega) (wanted_none rfl) (g := 49) (args := #[Value.pointer (some ⟨hb, 0, none⟩), Value.int .i64 me, Value.agg #[.string ⟨n.toArray⟩, .int .i64 c, .int .i64 rc, .int .i64 (l0.v + 1), .int .i64 d, .int .i64 u, .int .i64 h]]) (by simp only [execOp, resolve, invoke, List.map_toArray, List.map_cons, List.map_nil, (F6.eval 57 (by omega)).trans (show _ = Value.pointer (some ⟨hb, 0, none⟩) from by simp [upd, e0, e13]), (F6.eval 61 (by omega)).trans (show _ = Value.int .i64 me from by simp [upd, e0, e13]), (F6.eval 62 (by omega)).trans (show _ = Value.agg #[.string ⟨n.toArray⟩, .int .i64 c, .int .i64 rc, .int .i64 (l0.v + 1), .int .i64 d, .int .i64 u, .int .i64 h] from by simp [upd, e0, e13])]; simp [go_sem, Act.eval]) (keep_any me ⟨me, n, c, rc, l0.v + 1, d, u, h⟩ (({ X6 with drawn := X6.drawn + 1 } : World)) (VH _ HCC) hnl) ?_
        rintro e w9 ⟨rfl, hV9, hc9⟩
        refine ⟨_, rfl, fun F7 => ?_⟩
        refine ⟨fun h => by omega, ?_⟩
        refine hK _ _ ?_
        clear F0 F1 F2 F3 F4 F5 F6 F7 e0 e13 HCC VH VB
        simp only [Act.put, List.setIfInBounds_toArray, List.set_cons_succ, List.set_cons_zero]
        have HV9 : Hid _ := hV9
        have HC9 : Hid (Chg (fun k => k = mb) w w9) := ((Chg.ofBelow (fun k => k = mb) HBY.out).drewN 1).trans hc9 (fun _ _ e => e)
        clear hV9 hc9
        go_wp2_with fail
        go_ret
        exact ⟨ret_i64 HCO.out.symm, by rw [HNX.out]; exact HV9.out, HC9.out⟩
end Go.Proofs.YtnphkmdanicemaaGreatDoor
