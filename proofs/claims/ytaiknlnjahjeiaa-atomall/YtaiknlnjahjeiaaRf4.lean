import Derived.Test.YtaiknlnjahjeiaaR4a
import Derived.Deep.Cut
namespace Go.Proofs.Ytaiknlnjahjeiaa
open Go.RowKit Go.PlainAid Go.MapKept
set_option linter.unusedVariables false
set_option linter.unusedSimpArgs false
set_option maxRecDepth 100000 in
set_option maxHeartbeats 6400000 in
theorem rcreate_yes {B0 K rb : Nat} {v : Value} {M : List RC} (k A B : Int) (n : List UInt8) (w : World) (h : RMap B0 rb v M w) (hB0 : B0 ≤ w.heap.size) (hA : RAll B0 K M w) (hK : K ≤ 90000) (hl : rlook n M = none) (hnl : ¬ A < B) :
    Calls Try.prog 58 #[.pointer (some ⟨rb, 0, none⟩), .agg #[.int .i64 k, .string ⟨n.toArray⟩, .int .i64 A, .int .i64 B]] w fun e w' => e = .returned (.tuple #[.int .i64 0, .int .i64 0]) ∧ RDone B0 rb v w (insR (newRC n A B) M) w' := by
  obtain ⟨ob, hob⟩ : ∃ b, b = w.heap.size := ⟨_, rfl⟩
  obtain ⟨X, hX⟩ : ∃ X, X = w.alloc (.cells #[.int .i64 k, .string ⟨n.toArray⟩, .int .i64 A, .int .i64 B] 31) := ⟨_, rfl⟩
  have hbX : Below w.heap.size w X := by rw [hX]; exact (Below.refl _ _).alloc (Nat.le_refl _) _
  have hB : Blk X ob #[.int .i64 k, .string ⟨n.toArray⟩, .int .i64 A, .int .i64 B] 31 := by rw [hX, hob]; exact heap_alloc_new w _
  have HF : Hid _ := find_no X (h.more hbX) (Nat.le_trans hA.len (by omega)) (rlook_none hl)
  have o1 : X.cell? ⟨ob, 1, none⟩ = some (.string ⟨n.toArray⟩) := hB.cell 1
  have o2 : X.cell? ⟨ob, 2, none⟩ = some (.int .i64 A) := hB.cell 2
  have o3 : X.cell? ⟨ob, 3, none⟩ = some (.int .i64 B) := hB.cell 3
  have HBX : Hid (Below w.heap.size w X) := hbX
  obtain ⟨N, hN⟩ : ∃ N, N = M.length := ⟨_, rfl⟩
  have HN : Hid (N = M.length) := hN
  have hNK : N ≤ 90000 := by rw [hN]; exact Nat.le_trans hA.len hK
  have hrow := h.row
  rw [← hN] at hrow
  obtain ⟨ro, rc, hv, _⟩ := own_slice hrow
  have HBR : Hid (Blk w rb #[v] 90) := h.box
  have HVW : Hid (RMap B0 rb v M w) := h
  subst hv
  have HR : Hid (w.ownsRow B0 94 5 (.slice ro N rc) N (flatR M)) := hrow
  have HA : Hid (RAll B0 K M w) := hA
  have HL0 : Hid (B0 ≤ w.heap.size) := hB0
  obtain ⟨cb, hcb⟩ : ∃ b, b = X.heap.size := ⟨_, rfl⟩
  obtain ⟨Y, hY⟩ : ∃ Y, Y = X.alloc (.cells #[.string ⟨n.toArray⟩, .int .i64 A, .int .i64 B, .slice none 0 0, .slice none 0 0] 94) := ⟨_, rfl⟩
  have hbY : Below X.heap.size X Y := by rw [hY]; exact (Below.refl _ _).alloc (Nat.le_refl _) _
  have HCY : Hid (Blk Y cb #[.string ⟨n.toArray⟩, .int .i64 A, .int .i64 B, .slice none 0 0, .slice none 0 0] 94) := show Blk Y cb #[.string ⟨n.toArray⟩, .int .i64 A, .int .i64 B, .slice none 0 0, .slice none 0 0] 94 from by rw [hY, hcb]; exact heap_alloc_new X _
  have HBY : Hid (Below w.heap.size w Y) := hbX.trans (hbY.mono hbX.size)
  obtain ⟨c0, hc0⟩ : ∃ c0, c0 = newRC n A B := ⟨_, rfl⟩
  have HC0 : Hid (c0 = newRC n A B) := hc0
  rw [← hc0]
  have HCL : Hid (X.heap.size ≤ cb ∧ w.heap.size ≤ X.heap.size) := ⟨by omega, hbX.size⟩
  clear h hA hl hbX hB hrow hN hc0 hbY hB0
  go_enter Try.func58, Try.ntmps58
  go_upto_region 1 with fail
  rw [← hX, ← hob]
  clear hX hob
  go_wp2_with fail
  refine Calls.mono HF.out ?_
  rintro e9 w9 ⟨rfl, hw⟩
  replace hw := hw.symm
  subst hw
  go_upto_region 8 with fail
  rw [← hY, ← hcb]
  clear hY hcb HF o1 o2 o3
  go_wp2_with fail
  go_loopw [7, 8, 9] (fun s7 s8 s9 wr => ∃ (q : Nat) (b : Bool) (u : Value) (P : List RC), u = s7 ∧ q ≤ N ∧ P.length ≤ q + b.toNat ∧ s8 = .bool b ∧ s9 = .int .i64 q ∧ wr.ownsRow Y.heap.size 94 5 u P.length (flatR P) ∧ P ++ restR b c0 (M.drop q) = insR c0 M ∧ Below Y.heap.size Y wr) (fun _ _ s9 _ => N - (intOf s9).toNat)
  case atStart => exact ⟨0, false, _, [], rfl, Nat.zero_le _, Nat.zero_le _, rfl, rfl, World.ownsRow_nil _ _ _ _, rfl, Below.refl _ _⟩
  case round =>
    obtain ⟨q, b, u, P, rfl, hqN, hPl, rfl, rfl, hu, hP, hbw⟩ := hrel
    have HBW : Hid (Below Y.heap.size Y wr) := hbw
    have HWR : Hid (Below w.heap.size w wr) := HBY.out.trans (hbw.mono HBY.out.size)
    have HP : Hid (P ++ restR b c0 (M.drop q) = insR c0 M) := hP
    obtain ⟨m, hm⟩ : ∃ m, m = P.length := ⟨_, rfl⟩
    have HM : Hid (m = P.length) := hm
    rw [← hm] at hu hPl
    have HU : Hid (wr.ownsRow Y.heap.size 94 5 u m (flatR P)) := hu
    obtain ⟨uo, uc, huv, _⟩ := own_slice hu
    subst huv
    have hCB0 := HCY.out.below hbw HCY.out.lt
    have HCB : Hid (Blk wr cb #[.string ⟨n.toArray⟩, .int .i64 A, .int .i64 B, .slice none 0 0, .slice none 0 0] 94) := hCB0
    have x0 : wr.cell? ⟨cb, 0, none⟩ = some (.string ⟨n.toArray⟩) := hCB0.cell 0
    have x1 : wr.cell? ⟨cb, 1, none⟩ = some (.int .i64 A) := hCB0.cell 1
    have x2 : wr.cell? ⟨cb, 2, none⟩ = some (.int .i64 B) := hCB0.cell 2
    have x3 : wr.cell? ⟨cb, 3, none⟩ = some (.slice none 0 0) := hCB0.cell 3
    have x4 : wr.cell? ⟨cb, 4, none⟩ = some (.slice none 0 0) := hCB0.cell 4
    have hRB0 := HBR.out.below HWR.out HBR.out.lt
    have HRB0 : Hid (Blk wr rb #[.slice ro N rc] 90) := hRB0
    have b0 : wr.cell? ⟨rb, 0, none⟩ = some (.slice ro N rc) := hRB0.cell 0
    clear hu hP hbw hm hCB0 hRB0
    by_cases hlt : q < N
    · obtain ⟨c, hp⟩ : ∃ c, M[q]? = some c := ⟨_, List.getElem?_eq_getElem (by rw [← HN.out]; exact hlt)⟩
      obtain ⟨g, gc, hg, _, _, hgl, hcell⟩ := own_at' HR.out (by omega)
      cases hg
      have k0 : wr.cell? ⟨g, q * 5, none⟩ = some (.string ⟨c.nm.toArray⟩) := (HWR.out.cell (p := ⟨g, q * 5, none⟩) hgl).trans (hcell (q * 5) _ (flatR_at 0 hp (by decide)))
      have k1 : wr.cell? ⟨g, q * 5 + 1, none⟩ = some (.int .i64 c.cap) := (HWR.out.cell (p := ⟨g, q * 5 + 1, none⟩) hgl).trans (hcell (q * 5 + 1) _ (flatR_at 1 hp (by decide)))
      have k2 : wr.cell? ⟨g, q * 5 + 2, none⟩ = some (.int .i64 c.val) := (HWR.out.cell (p := ⟨g, q * 5 + 2, none⟩) hgl).trans (hcell (q * 5 + 2) _ (flatR_at 2 hp (by decide)))
      have k3 : wr.cell? ⟨g, q * 5 + 3, none⟩ = some c.hv := (HWR.out.cell (p := ⟨g, q * 5 + 3, none⟩) hgl).trans (hcell (q * 5 + 3) _ (flatR_at 3 hp (by decide)))
      have k4 : wr.cell? ⟨g, q * 5 + 4, none⟩ = some c.uv := (HWR.out.cell (p := ⟨g, q * 5 + 4, none⟩) hgl).trans (hcell (q * 5 + 4) _ (flatR_at 4 hp (by decide)))
      have hrd := HA.out.rd c (List.mem_of_getElem? hp)
      obtain ⟨h1o, h1c, hhv, _⟩ := own_slice hrd.h
      obtain ⟨u1o, u1c, huv, _⟩ := own_slice hrd.u
      rw [hhv] at k3
      rw [huv] at k4
      have HCR : Hid (c.row = [.string ⟨c.nm.toArray⟩, .int .i64 c.cap, .int .i64 c.val, .slice h1o c.H.length h1c, .slice u1o c.U.length u1c]) := show _ = _ from by unfold RC.row; rw [hhv, huv]
      have HRB : Hid (Blk wr rb #[.slice (some ⟨g, 0, none⟩) N rc] 90) := HRB0.out
      have HDR : Hid (M.drop q = c :: M.drop (q + 1)) := show _ = _ from by
        obtain ⟨hq1, hq2⟩ := List.getElem?_eq_some_iff.1 hp
        rw [List.drop_eq_getElem_cons hq1, hq2]
      generalize c.H.length = hn at *
      generalize c.U.length = un at *
      have hgw : g < w.heap.size := hgl
      have HGL : Hid (g < w.heap.size) := hgl
      clear hp hgl hcell hrd hhv huv HRB0 hgw
      cases b with
      | true =>
        simp only [Bool.toNat_true] at hPl
        have hgt : True := trivial
        have HT9 : Hid (P ++ [c] ++ restR true c0 (M.drop (q + 1)) = insR c0 M) := show _ = _ from by rw [← HP.out, HDR.out]; simp [restR]
        clear hgt
        obtain ⟨U, hU⟩ : ∃ U, U = ({ wr with drawn := wr.drawn + 1 } : World) := ⟨_, rfl⟩
        have HUq : Hid (U = ({ wr with drawn := wr.drawn + 1 } : World)) := hU
        have HUU : Hid (U.ownsRow Y.heap.size 94 5 (.slice uo m uc) m (flatR P)) := show World.ownsRow U Y.heap.size 94 5 (.slice uo m uc) m (flatR P) from by rw [hU]; exact HU.out
        have HBU : Hid (Below Y.heap.size Y U) := show Below Y.heap.size Y U from by rw [hU]; exact Below.drew HBW.out
        have HWU : Hid (Below w.heap.size w U) := show Below w.heap.size w U from by rw [hU]; exact Below.drew HWR.out
        have y0 : U.cell? ⟨cb, 0, none⟩ = some (.string ⟨n.toArray⟩) := by rw [hU]; exact x0
        have y1 : U.cell? ⟨cb, 1, none⟩ = some (.int .i64 A) := by rw [hU]; exact x1
        have y2 : U.cell? ⟨cb, 2, none⟩ = some (.int .i64 B) := by rw [hU]; exact x2
        have y3 : U.cell? ⟨cb, 3, none⟩ = some (.slice none 0 0) := by rw [hU]; exact x3
        have y4 : U.cell? ⟨cb, 4, none⟩ = some (.slice none 0 0) := by rw [hU]; exact x4
        have z0 : U.cell? ⟨g, q * 5, none⟩ = some (.string ⟨c.nm.toArray⟩) := by rw [hU]; exact k0
        have z1 : U.cell? ⟨g, q * 5 + 1, none⟩ = some (.int .i64 c.cap) := by rw [hU]; exact k1
        have z2 : U.cell? ⟨g, q * 5 + 2, none⟩ = some (.int .i64 c.val) := by rw [hU]; exact k2
        have z3 : U.cell? ⟨g, q * 5 + 3, none⟩ = some (.slice h1o hn h1c) := by rw [hU]; exact k3
        have z4 : U.cell? ⟨g, q * 5 + 4, none⟩ = some (.slice u1o un u1c) := by rw [hU]; exact k4
        have yb : U.cell? ⟨rb, 0, none⟩ = some (.slice (some ⟨g, 0, none⟩) N rc) := by rw [hU]; exact b0
        clear hU
        obtain ⟨v5, w5, h1, h2, h3⟩ := app_one 88 94 (.agg #[.string ⟨#[]⟩, .int .i64 0, .int .i64 0, .slice none 0 0, .slice none 0 0]) 5 80 Try.underlying88 info94 rfl (by decide) (by decide) HUU.out #[.string ⟨c.nm.toArray⟩, .int .i64 c.cap, .int .i64 c.val, .slice h1o hn h1c, .slice u1o un u1c] rfl (fun u hu => by simp at hu; rcases hu with rfl | rfl | rfl | rfl | rfl <;> rfl) (by omega) HBU.out.size
        have HT : Hid (w5.ownsRow Y.heap.size 94 5 v5 (P ++ [c]).length (flatR (P ++ [c]))) := show World.ownsRow w5 Y.heap.size 94 5 v5 (P ++ [c]).length (flatR (P ++ [c])) from by rw [flatR_app, HCR.out, List.length_append, ← HM.out]; exact h2
        have HB2 : Hid (Below Y.heap.size Y w5) := HBU.out.trans (h3.below (fun j hj => (ownsRow_lt HUU.out hj).1) HBU.out.size)
        have HRN : Hid _ := h1
        clear h1 h2 h3
        go_upto_region 11 with fail
        go_wp2_with fail
        first | rename_i KK hKK | skip
        try rw [show ∀ a : Act, a.put none undef = a from fun _ => rfl]
        refine wp_region_mix (fun wq => Blk wq rb #[.slice (some ⟨g, 0, none⟩) N rc] 90 ∧ Blk wq cb #[.string ⟨n.toArray⟩, .int .i64 A, .int .i64 B, .slice none 0 0, .slice none 0 0] 94 ∧ wq.cell? ⟨g, q * 5, none⟩ = some (.string ⟨c.nm.toArray⟩)) (fun i => i == 99) 99 (by kernel_rfl) rfl (by kernel_rfl) (by kernel_rfl) (by kernel_rfl) ?_
        refine withFrP (N := 75) rfl ?_
        intro f0 F0 hff
        have ee8 : f0 8 = Value.bool true := hff 8
        have ee0 : f0 0 = Value.pointer (some ⟨rb, 0, none⟩) := hff 0
        have ee9 : f0 9 = Value.int .i64 (q : Nat) := hff 9
        have ee6 : f0 6 = Value.pointer (some ⟨cb, 0, none⟩) := hff 6
        clear hff
        have HCC : (fun wq => Blk wq rb #[.slice (some ⟨g, 0, none⟩) N rc] 90 ∧ Blk wq cb #[.string ⟨n.toArray⟩, .int .i64 A, .int .i64 B, .slice none 0 0, .slice none 0 0] 94 ∧ wq.cell? ⟨g, q * 5, none⟩ = some (.string ⟨c.nm.toArray⟩)) (({ wr with drawn := wr.drawn + 1 } : World)) := ⟨HRB.out, HCB.out, k0⟩
        refine lyp F0 rfl HCC rfl (by omega) (wanted_none rfl) (v := Value.bool true) (fun wr hwr => by simp only [execOp, (F0.eval 8 (by omega)).trans (show _ = Value.bool true from by simp [upd, ee8, ee0, ee9, ee6])]; first | rfl | simp [go_sem]) fun F1 => ?_
        refine lyp F1 rfl HCC rfl (by omega) (wanted_none rfl) (v := Value.bool false) (fun wr hwr => by simp only [execOp, (F1.eval 36 (by omega)).trans (show _ = Value.bool true from by simp [upd, ee8, ee0, ee9, ee6])]; simp [go_sem, Act.eval]) fun F2 => ?_
        refine lyp F2 rfl HCC rfl (by omega) (wanted_none rfl) (v := Value.bool false) (fun wr hwr => by simp only [execOp, (F2.eval 37 (by omega)).trans (show _ = Value.bool false from by simp [upd, ee8, ee0, ee9, ee6])]; first | rfl | simp [go_sem]) fun F3 => ?_
        refine lnp F3 rfl HCC rfl (by omega) (want_no F3 rfl (e := 38) rfl (by omega) (show _ = Value.bool false from by simp [upd, ee8, ee0, ee9, ee6]) (by decide)) fun F4 => ?_
        refine lnp F4 rfl HCC rfl (by omega) (want_no F4 rfl (e := 38) rfl (by omega) (show _ = Value.bool false from by simp [upd, ee8, ee0, ee9, ee6]) (by decide)) fun F5 => ?_
        refine lnp F5 rfl HCC rfl (by omega) (want_no F5 rfl (e := 38) rfl (by omega) (show _ = Value.bool false from by simp [upd, ee8, ee0, ee9, ee6]) (by decide)) fun F6 => ?_
        refine lnp F6 rfl HCC rfl (by omega) (want_no F6 rfl (e := 38) rfl (by omega) (show _ = Value.bool false from by simp [upd, ee8, ee0, ee9, ee6]) (by decide)) fun F7 => ?_
        refine lnp F7 rfl HCC rfl (by omega) (want_no F7 rfl (e := 38) rfl (by omega) (show _ = Value.bool false from by simp [upd, ee8, ee0, ee9, ee6]) (by decide)) fun F8 => ?_
        refine lnp F8 rfl HCC rfl (by omega) (want_no F8 rfl (e := 38) rfl (by omega) (show _ = Value.bool false from by simp [upd, ee8, ee0, ee9, ee6]) (by decide)) fun F9 => ?_
        refine lnp F9 rfl HCC rfl (by omega) (want_no F9 rfl (e := 38) rfl (by omega) (show _ = Value.bool false from by simp [upd, ee8, ee0, ee9, ee6]) (by decide)) fun F10 => ?_
        refine lnp F10 rfl HCC rfl (by omega) (want_no F10 rfl (e := 38) rfl (by omega) (show _ = Value.bool false from by simp [upd, ee8, ee0, ee9, ee6]) (by decide)) fun F11 => ?_
        refine lnp F11 rfl HCC rfl (by omega) (want_no F11 rfl (e := 38) rfl (by omega) (show _ = Value.bool false from by simp [upd, ee8, ee0, ee9, ee6]) (by decide)) fun F12 => ?_
        refine lnp F12 rfl HCC rfl (by omega) (want_no F12 rfl (e := 38) rfl (by omega) (show _ = Value.bool false from by simp [upd, ee8, ee0, ee9, ee6]) (by decide)) fun F13 => ?_
        refine lnp F13 rfl HCC rfl (by omega) (want_no F13 rfl (e := 38) rfl (by omega) (show _ = Value.bool false from by simp [upd, ee8, ee0, ee9, ee6]) (by decide)) fun F14 => ?_
        refine lyp F14 rfl HCC rfl (by omega) (wanted_none rfl) (v := Value.bool false) (fun wr hwr => by simp only [execOp, (F14.eval 38 (by omega)).trans (show _ = Value.bool false from by simp [upd, ee8, ee0, ee9, ee6])]; simp [go_sem, Act.eval]) fun F15 => ?_
        refine ⟨fun _ => HCC, ?_⟩
        first | refine hKK _ _ ?_ | skip
        clear F0 F1 F2 F3 F4 F5 F6 F7 F8 F9 F10 F11 F12 F13 F14 F15 ee8 ee0 ee9 ee6 HCC
        simp only [Act.put, List.setIfInBounds_toArray, List.set_cons_succ, List.set_cons_zero]
        rw [← HUq.out]
        clear HUq x0 x1 x2 x3 x4 k0 k1 k2 k3 k4 b0
        go_wp2_with (at_builtin; refine wpList_runs rfl _ _ 88 rfl rfl rfl HRN.out ?_)
        go_roundw
        case rel => exact ⟨q + 1, true, _, P ++ [c], rfl, by omega, by (rw [List.length_append, ← HM.out]; simp; try omega), rfl, by go_num, HT.out, HT9.out, HB2.out⟩
        case measure => simp [intOf]; omega
      | false =>
        simp only [Bool.toNat_false] at hPl
        by_cases hgt0 : gtB c.nm n = true
        · have hgt : (Op.bytesLess c.nm n || c.nm == n) = false := by unfold gtB at hgt0; simpa using hgt0
          have HT9 : Hid (P ++ [c0] ++ [c] ++ restR true c0 (M.drop (q + 1)) = insR c0 M) := show _ = _ from by rw [← HP.out, HDR.out]; simp [restR, insR, HC0.out, newRC, hgt0]
          clear hgt0
          obtain ⟨U, hU⟩ : ∃ U, U = ({ wr with drawn := wr.drawn + 1 } : World) := ⟨_, rfl⟩
          have HUq : Hid (U = ({ wr with drawn := wr.drawn + 1 } : World)) := hU
          have HUU : Hid (U.ownsRow Y.heap.size 94 5 (.slice uo m uc) m (flatR P)) := show World.ownsRow U Y.heap.size 94 5 (.slice uo m uc) m (flatR P) from by rw [hU]; exact HU.out
          have HBU : Hid (Below Y.heap.size Y U) := show Below Y.heap.size Y U from by rw [hU]; exact Below.drew HBW.out
          have HWU : Hid (Below w.heap.size w U) := show Below w.heap.size w U from by rw [hU]; exact Below.drew HWR.out
          have y0 : U.cell? ⟨cb, 0, none⟩ = some (.string ⟨n.toArray⟩) := by rw [hU]; exact x0
          have y1 : U.cell? ⟨cb, 1, none⟩ = some (.int .i64 A) := by rw [hU]; exact x1
          have y2 : U.cell? ⟨cb, 2, none⟩ = some (.int .i64 B) := by rw [hU]; exact x2
          have y3 : U.cell? ⟨cb, 3, none⟩ = some (.slice none 0 0) := by rw [hU]; exact x3
          have y4 : U.cell? ⟨cb, 4, none⟩ = some (.slice none 0 0) := by rw [hU]; exact x4
          have z0 : U.cell? ⟨g, q * 5, none⟩ = some (.string ⟨c.nm.toArray⟩) := by rw [hU]; exact k0
          have z1 : U.cell? ⟨g, q * 5 + 1, none⟩ = some (.int .i64 c.cap) := by rw [hU]; exact k1
          have z2 : U.cell? ⟨g, q * 5 + 2, none⟩ = some (.int .i64 c.val) := by rw [hU]; exact k2
          have z3 : U.cell? ⟨g, q * 5 + 3, none⟩ = some (.slice h1o hn h1c) := by rw [hU]; exact k3
          have z4 : U.cell? ⟨g, q * 5 + 4, none⟩ = some (.slice u1o un u1c) := by rw [hU]; exact k4
          have yb : U.cell? ⟨rb, 0, none⟩ = some (.slice (some ⟨g, 0, none⟩) N rc) := by rw [hU]; exact b0
          clear hU
          obtain ⟨vn, wn, n1, n2, n3⟩ := app_one 88 94 (.agg #[.string ⟨#[]⟩, .int .i64 0, .int .i64 0, .slice none 0 0, .slice none 0 0]) 5 80 Try.underlying88 info94 rfl (by decide) (by decide) HUU.out #[.string ⟨n.toArray⟩, .int .i64 A, .int .i64 B, .slice none 0 0, .slice none 0 0] rfl (fun u hu => by simp at hu; rcases hu with rfl | rfl | rfl | rfl | rfl <;> rfl) (by omega) HBU.out.size
          have HTN0 : Hid (wn.ownsRow Y.heap.size 94 5 vn (m + 1) (flatR (P ++ [c0]))) := show World.ownsRow wn Y.heap.size 94 5 vn (m + 1) (flatR (P ++ [c0])) from by rw [flatR_app, HC0.out]; exact n2
          have HBn : Hid (Below Y.heap.size Y wn) := HBU.out.trans (n3.below (fun j hj => (ownsRow_lt HUU.out hj).1) HBU.out.size)
          have HBnw : Hid (Below w.heap.size U wn) := n3.below (fun j hj => by have := (ownsRow_lt HUU.out hj).1; have := HBY.out.size; omega) HWU.out.size
          obtain ⟨no, nc, hnv, _⟩ := own_slice HTN0.out
          subst hnv
          have HTN : Hid (wn.ownsRow Y.heap.size 94 5 (.slice no (m + 1) nc) (m + 1) (flatR (P ++ [c0]))) := HTN0.out
          have HRNN : Hid _ := n1
          clear n1 n2 n3 HTN0
          obtain ⟨v5, w5, h1, h2, h3⟩ := app_one 88 94 (.agg #[.string ⟨#[]⟩, .int .i64 0, .int .i64 0, .slice none 0 0, .slice none 0 0]) 5 80 Try.underlying88 info94 rfl (by decide) (by decide) HTN.out #[.string ⟨c.nm.toArray⟩, .int .i64 c.cap, .int .i64 c.val, .slice h1o hn h1c, .slice u1o un u1c] rfl (fun u hu => by simp at hu; rcases hu with rfl | rfl | rfl | rfl | rfl <;> rfl) (by omega) HBn.out.size
          have HT : Hid (w5.ownsRow Y.heap.size 94 5 v5 ((P ++ [c0]) ++ [c]).length (flatR ((P ++ [c0]) ++ [c]))) := show World.ownsRow w5 Y.heap.size 94 5 v5 ((P ++ [c0]) ++ [c]).length (flatR ((P ++ [c0]) ++ [c])) from by rw [flatR_app, HCR.out, List.length_append, List.length_append, ← HM.out]; exact h2
          have HB2 : Hid (Below Y.heap.size Y w5) := HBn.out.trans (h3.below (fun j hj => (ownsRow_lt HTN.out hj).1) HBn.out.size)
          have HRN : Hid _ := h1
          have hbn2 := HBnw.out
          have j0 : wn.cell? ⟨g, q * 5, none⟩ = some (.string ⟨c.nm.toArray⟩) := (HBnw.out.cell (p := ⟨g, q * 5, none⟩) HGL.out).trans z0
          have j1 : wn.cell? ⟨g, q * 5 + 1, none⟩ = some (.int .i64 c.cap) := (HBnw.out.cell (p := ⟨g, q * 5 + 1, none⟩) HGL.out).trans z1
          have j2 : wn.cell? ⟨g, q * 5 + 2, none⟩ = some (.int .i64 c.val) := (HBnw.out.cell (p := ⟨g, q * 5 + 2, none⟩) HGL.out).trans z2
          have j3 : wn.cell? ⟨g, q * 5 + 3, none⟩ = some (.slice h1o hn h1c) := (HBnw.out.cell (p := ⟨g, q * 5 + 3, none⟩) HGL.out).trans z3
          have j4 : wn.cell? ⟨g, q * 5 + 4, none⟩ = some (.slice u1o un u1c) := (HBnw.out.cell (p := ⟨g, q * 5 + 4, none⟩) HGL.out).trans z4
          have jb : wn.cell? ⟨rb, 0, none⟩ = some (.slice (some ⟨g, 0, none⟩) N rc) := (HBnw.out.cell (p := ⟨rb, 0, none⟩) HBR.out.lt).trans yb
          clear hbn2
          clear h1 h2 h3
          go_upto_region 11 with fail
          go_wp2_with fail
          first | rename_i KK hKK | skip
          try rw [show ∀ a : Act, a.put none undef = a from fun _ => rfl]
          refine wp_region_mix (fun wq => Blk wq rb #[.slice (some ⟨g, 0, none⟩) N rc] 90 ∧ Blk wq cb #[.string ⟨n.toArray⟩, .int .i64 A, .int .i64 B, .slice none 0 0, .slice none 0 0] 94 ∧ wq.cell? ⟨g, q * 5, none⟩ = some (.string ⟨c.nm.toArray⟩)) (fun i => i == 99) 99 (by kernel_rfl) rfl (by kernel_rfl) (by kernel_rfl) (by kernel_rfl) ?_
          refine withFrP (N := 75) rfl ?_
          intro f0 F0 hff
          have ee8 : f0 8 = Value.bool false := hff 8
          have ee0 : f0 0 = Value.pointer (some ⟨rb, 0, none⟩) := hff 0
          have ee9 : f0 9 = Value.int .i64 (q : Nat) := hff 9
          have ee6 : f0 6 = Value.pointer (some ⟨cb, 0, none⟩) := hff 6
          clear hff
          have HCC : (fun wq => Blk wq rb #[.slice (some ⟨g, 0, none⟩) N rc] 90 ∧ Blk wq cb #[.string ⟨n.toArray⟩, .int .i64 A, .int .i64 B, .slice none 0 0, .slice none 0 0] 94 ∧ wq.cell? ⟨g, q * 5, none⟩ = some (.string ⟨c.nm.toArray⟩)) (({ wr with drawn := wr.drawn + 1 } : World)) := ⟨HRB.out, HCB.out, k0⟩
          refine lyp F0 rfl HCC rfl (by omega) (wanted_none rfl) (v := Value.bool false) (fun wr hwr => by simp only [execOp, (F0.eval 8 (by omega)).trans (show _ = Value.bool false from by simp [upd, ee8, ee0, ee9, ee6])]; first | rfl | simp [go_sem]) fun F1 => ?_
          refine lyp F1 rfl HCC rfl (by omega) (wanted_none rfl) (v := Value.bool true) (fun wr hwr => by simp only [execOp, (F1.eval 36 (by omega)).trans (show _ = Value.bool false from by simp [upd, ee8, ee0, ee9, ee6])]; simp [go_sem, Act.eval]) fun F2 => ?_
          refine lyp F2 rfl HCC rfl (by omega) (wanted_none rfl) (v := Value.bool true) (fun wr hwr => by simp only [execOp, (F2.eval 37 (by omega)).trans (show _ = Value.bool true from by simp [upd, ee8, ee0, ee9, ee6])]; first | rfl | simp [go_sem]) fun F3 => ?_
          refine lyp F3 rfl HCC rfl (by omega) (want_yes F3 rfl (e := 38) rfl (by omega) (show _ = Value.bool true from by simp [upd, ee8, ee0, ee9, ee6])) (v := Value.pointer (some ⟨rb, 0, none⟩)) (fun wr hwr => by simp only [execOp, (F3.eval 0 (by omega)).trans (show _ = Value.pointer (some ⟨rb, 0, none⟩) from by simp [upd, ee8, ee0, ee9, ee6])]; first | rfl | simp [go_sem]) fun F4 => ?_
          refine lyp F4 rfl HCC rfl (by omega) (want_yes F4 rfl (e := 38) rfl (by omega) (show _ = Value.bool true from by simp [upd, ee8, ee0, ee9, ee6])) (v := Value.pointer (some ⟨rb, 0, none⟩)) (fun wr hwr => by simp only [execOp, (F4.eval 39 (by omega)).trans (show _ = Value.pointer (some ⟨rb, 0, none⟩) from by simp [upd, ee8, ee0, ee9, ee6])]; simp [go_sem]) fun F5 => ?_
          refine lyp F5 rfl HCC rfl (by omega) (want_yes F5 rfl (e := 38) rfl (by omega) (show _ = Value.bool true from by simp [upd, ee8, ee0, ee9, ee6])) (v := Value.pointer (some ⟨rb, 0, none⟩)) (fun wr hwr => by simp only [execOp, (F5.eval 40 (by omega)).trans (show _ = Value.pointer (some ⟨rb, 0, none⟩) from by simp [upd, ee8, ee0, ee9, ee6])]; simp [go_sem]) fun F6 => ?_
          refine lyp F6 rfl HCC rfl (by omega) (want_yes F6 rfl (e := 38) rfl (by omega) (show _ = Value.bool true from by simp [upd, ee8, ee0, ee9, ee6])) (v := Value.slice (some ⟨g, 0, none⟩) N rc) (fun wr hwr => by simp only [execOp, (F6.eval 41 (by omega)).trans (show _ = Value.pointer (some ⟨rb, 0, none⟩) from by simp [upd, ee8, ee0, ee9, ee6])]; simp [go_sem, show wr.cell? ⟨rb, 0, none⟩ = some (.slice (some ⟨g, 0, none⟩) N rc) from hwr.1.cell 0]) fun F7 => ?_
          refine lyp F7 rfl HCC rfl (by omega) (want_yes F7 rfl (e := 38) rfl (by omega) (show _ = Value.bool true from by simp [upd, ee8, ee0, ee9, ee6])) (v := Value.int .i64 (q : Nat)) (fun wr hwr => by simp only [execOp, (F7.eval 9 (by omega)).trans (show _ = Value.int .i64 (q : Nat) from by simp [upd, ee8, ee0, ee9, ee6])]; first | rfl | simp [go_sem]) fun F8 => ?_
          refine lyp F8 rfl HCC rfl (by omega) (want_yes F8 rfl (e := 38) rfl (by omega) (show _ = Value.bool true from by simp [upd, ee8, ee0, ee9, ee6])) (v := Value.pointer (some ⟨g, q * 5, none⟩)) (fun wr hwr => by simp only [execOp, (F8.eval 42 (by omega)).trans (show _ = Value.slice (some ⟨g, 0, none⟩) N rc from by simp [upd, ee8, ee0, ee9, ee6]), (F8.eval 43 (by omega)).trans (show _ = Value.int .i64 (q : Nat) from by simp [upd, ee8, ee0, ee9, ee6])]; simp only [Sem.run_bind, Sem.run_pure, Result.andThen_ok, idx_run 88 94 5 Try.underlying88 (by kernel_rfl) wr g 0 N rc q (by omega), Nat.zero_add]; try rfl) fun F9 => ?_
          refine lyp F9 rfl HCC rfl (by omega) (want_yes F9 rfl (e := 38) rfl (by omega) (show _ = Value.bool true from by simp [upd, ee8, ee0, ee9, ee6])) (v := Value.pointer (some ⟨g, q * 5, none⟩)) (fun wr hwr => by simp only [execOp, (F9.eval 44 (by omega)).trans (show _ = Value.pointer (some ⟨g, q * 5, none⟩) from by simp [upd, ee8, ee0, ee9, ee6])]; simp [go_sem]) fun F10 => ?_
          refine lyp F10 rfl HCC rfl (by omega) (want_yes F10 rfl (e := 38) rfl (by omega) (show _ = Value.bool true from by simp [upd, ee8, ee0, ee9, ee6])) (v := Value.string ⟨c.nm.toArray⟩) (fun wr hwr => by simp only [execOp, (F10.eval 45 (by omega)).trans (show _ = Value.pointer (some ⟨g, q * 5, none⟩) from by simp [upd, ee8, ee0, ee9, ee6])]; simp [go_sem, hwr.2.2]) fun F11 => ?_
          refine lyp F11 rfl HCC rfl (by omega) (want_yes F11 rfl (e := 38) rfl (by omega) (show _ = Value.bool true from by simp [upd, ee8, ee0, ee9, ee6])) (v := Value.pointer (some ⟨cb, 0, none⟩)) (fun wr hwr => by simp only [execOp, (F11.eval 6 (by omega)).trans (show _ = Value.pointer (some ⟨cb, 0, none⟩) from by simp [upd, ee8, ee0, ee9, ee6])]; simp [go_sem]) fun F12 => ?_
          refine lyp F12 rfl HCC rfl (by omega) (want_yes F12 rfl (e := 38) rfl (by omega) (show _ = Value.bool true from by simp [upd, ee8, ee0, ee9, ee6])) (v := Value.string ⟨n.toArray⟩) (fun wr hwr => by simp only [execOp, (F12.eval 47 (by omega)).trans (show _ = Value.pointer (some ⟨cb, 0, none⟩) from by simp [upd, ee8, ee0, ee9, ee6])]; simp [go_sem, show wr.cell? ⟨cb, 0, none⟩ = some (.string ⟨n.toArray⟩) from hwr.2.1.cell 0]) fun F13 => ?_
          refine lyp F13 rfl HCC rfl (by omega) (want_yes F13 rfl (e := 38) rfl (by omega) (show _ = Value.bool true from by simp [upd, ee8, ee0, ee9, ee6])) (v := Value.bool true) (fun wr hwr => by simp only [execOp, (F13.eval 46 (by omega)).trans (show _ = Value.string ⟨c.nm.toArray⟩ from by simp [upd, ee8, ee0, ee9, ee6]), (F13.eval 48 (by omega)).trans (show _ = Value.string ⟨n.toArray⟩ from by simp [upd, ee8, ee0, ee9, ee6])]; simp [go_sem, Act.eval, hgt]) fun F14 => ?_
          refine lyp F14 rfl HCC rfl (by omega) (wanted_none rfl) (v := Value.bool true) (fun wr hwr => by simp only [execOp, (F14.eval 38 (by omega)).trans (show _ = Value.bool true from by simp [upd, ee8, ee0, ee9, ee6]), (F14.eval 49 (by omega)).trans (show _ = Value.bool true from by simp [upd, ee8, ee0, ee9, ee6])]; simp [go_sem, Act.eval]) fun F15 => ?_
          refine ⟨fun _ => HCC, ?_⟩
          first | refine hKK _ _ ?_ | skip
          clear F0 F1 F2 F3 F4 F5 F6 F7 F8 F9 F10 F11 F12 F13 F14 F15 ee8 ee0 ee9 ee6 HCC
          simp only [Act.put, List.setIfInBounds_toArray, List.set_cons_succ, List.set_cons_zero]
          rw [← HUq.out]
          clear HUq x0 x1 x2 x3 x4 k0 k1 k2 k3 k4 b0
          go_wp2_with (at_builtin; first | (refine wpList_runs rfl _ _ 88 rfl rfl rfl HRNN.out ?_) | (refine wpList_runs rfl _ _ 88 rfl rfl rfl HRN.out ?_))
          go_roundw
          case rel => exact ⟨q + 1, true, _, P ++ [c0] ++ [c], rfl, by omega, by (rw [List.length_append, List.length_append, ← HM.out]; simp; try omega), rfl, by go_num, HT.out, HT9.out, HB2.out⟩
          case measure => simp [intOf]; omega
        · have hgt : (Op.bytesLess c.nm n || c.nm == n) = true := by
            cases hh : (Op.bytesLess c.nm n || c.nm == n) with
            | true => rfl
            | false => exact absurd (by unfold gtB; rw [hh]; rfl) hgt0
          have HT9 : Hid (P ++ [c] ++ restR false c0 (M.drop (q + 1)) = insR c0 M) := show _ = _ from by rw [← HP.out, HDR.out]; simp [restR, insR, HC0.out, newRC, hgt0]
          clear hgt0
          obtain ⟨U, hU⟩ : ∃ U, U = ({ wr with drawn := wr.drawn + 1 } : World) := ⟨_, rfl⟩
          have HUq : Hid (U = ({ wr with drawn := wr.drawn + 1 } : World)) := hU
          have HUU : Hid (U.ownsRow Y.heap.size 94 5 (.slice uo m uc) m (flatR P)) := show World.ownsRow U Y.heap.size 94 5 (.slice uo m uc) m (flatR P) from by rw [hU]; exact HU.out
          have HBU : Hid (Below Y.heap.size Y U) := show Below Y.heap.size Y U from by rw [hU]; exact Below.drew HBW.out
          have HWU : Hid (Below w.heap.size w U) := show Below w.heap.size w U from by rw [hU]; exact Below.drew HWR.out
          have y0 : U.cell? ⟨cb, 0, none⟩ = some (.string ⟨n.toArray⟩) := by rw [hU]; exact x0
          have y1 : U.cell? ⟨cb, 1, none⟩ = some (.int .i64 A) := by rw [hU]; exact x1
          have y2 : U.cell? ⟨cb, 2, none⟩ = some (.int .i64 B) := by rw [hU]; exact x2
          have y3 : U.cell? ⟨cb, 3, none⟩ = some (.slice none 0 0) := by rw [hU]; exact x3
          have y4 : U.cell? ⟨cb, 4, none⟩ = some (.slice none 0 0) := by rw [hU]; exact x4
          have z0 : U.cell? ⟨g, q * 5, none⟩ = some (.string ⟨c.nm.toArray⟩) := by rw [hU]; exact k0
          have z1 : U.cell? ⟨g, q * 5 + 1, none⟩ = some (.int .i64 c.cap) := by rw [hU]; exact k1
          have z2 : U.cell? ⟨g, q * 5 + 2, none⟩ = some (.int .i64 c.val) := by rw [hU]; exact k2
          have z3 : U.cell? ⟨g, q * 5 + 3, none⟩ = some (.slice h1o hn h1c) := by rw [hU]; exact k3
          have z4 : U.cell? ⟨g, q * 5 + 4, none⟩ = some (.slice u1o un u1c) := by rw [hU]; exact k4
          have yb : U.cell? ⟨rb, 0, none⟩ = some (.slice (some ⟨g, 0, none⟩) N rc) := by rw [hU]; exact b0
          clear hU
          obtain ⟨v5, w5, h1, h2, h3⟩ := app_one 88 94 (.agg #[.string ⟨#[]⟩, .int .i64 0, .int .i64 0, .slice none 0 0, .slice none 0 0]) 5 80 Try.underlying88 info94 rfl (by decide) (by decide) HUU.out #[.string ⟨c.nm.toArray⟩, .int .i64 c.cap, .int .i64 c.val, .slice h1o hn h1c, .slice u1o un u1c] rfl (fun u hu => by simp at hu; rcases hu with rfl | rfl | rfl | rfl | rfl <;> rfl) (by omega) HBU.out.size
          have HT : Hid (w5.ownsRow Y.heap.size 94 5 v5 (P ++ [c]).length (flatR (P ++ [c]))) := show World.ownsRow w5 Y.heap.size 94 5 v5 (P ++ [c]).length (flatR (P ++ [c])) from by rw [flatR_app, HCR.out, List.length_append, ← HM.out]; exact h2
          have HB2 : Hid (Below Y.heap.size Y w5) := HBU.out.trans (h3.below (fun j hj => (ownsRow_lt HUU.out hj).1) HBU.out.size)
          have HRN : Hid _ := h1
          clear h1 h2 h3
          go_upto_region 11 with fail
          go_wp2_with fail
          first | rename_i KK hKK | skip
          try rw [show ∀ a : Act, a.put none undef = a from fun _ => rfl]
          refine wp_region_mix (fun wq => Blk wq rb #[.slice (some ⟨g, 0, none⟩) N rc] 90 ∧ Blk wq cb #[.string ⟨n.toArray⟩, .int .i64 A, .int .i64 B, .slice none 0 0, .slice none 0 0] 94 ∧ wq.cell? ⟨g, q * 5, none⟩ = some (.string ⟨c.nm.toArray⟩)) (fun i => i == 99) 99 (by kernel_rfl) rfl (by kernel_rfl) (by kernel_rfl) (by kernel_rfl) ?_
          refine withFrP (N := 75) rfl ?_
          intro f0 F0 hff
          have ee8 : f0 8 = Value.bool false := hff 8
          have ee0 : f0 0 = Value.pointer (some ⟨rb, 0, none⟩) := hff 0
          have ee9 : f0 9 = Value.int .i64 (q : Nat) := hff 9
          have ee6 : f0 6 = Value.pointer (some ⟨cb, 0, none⟩) := hff 6
          clear hff
          have HCC : (fun wq => Blk wq rb #[.slice (some ⟨g, 0, none⟩) N rc] 90 ∧ Blk wq cb #[.string ⟨n.toArray⟩, .int .i64 A, .int .i64 B, .slice none 0 0, .slice none 0 0] 94 ∧ wq.cell? ⟨g, q * 5, none⟩ = some (.string ⟨c.nm.toArray⟩)) (({ wr with drawn := wr.drawn + 1 } : World)) := ⟨HRB.out, HCB.out, k0⟩
          refine lyp F0 rfl HCC rfl (by omega) (wanted_none rfl) (v := Value.bool false) (fun wr hwr => by simp only [execOp, (F0.eval 8 (by omega)).trans (show _ = Value.bool false from by simp [upd, ee8, ee0, ee9, ee6])]; first | rfl | simp [go_sem]) fun F1 => ?_
          refine lyp F1 rfl HCC rfl (by omega) (wanted_none rfl) (v := Value.bool true) (fun wr hwr => by simp only [execOp, (F1.eval 36 (by omega)).trans (show _ = Value.bool false from by simp [upd, ee8, ee0, ee9, ee6])]; simp [go_sem, Act.eval]) fun F2 => ?_
          refine lyp F2 rfl HCC rfl (by omega) (wanted_none rfl) (v := Value.bool true) (fun wr hwr => by simp only [execOp, (F2.eval 37 (by omega)).trans (show _ = Value.bool true from by simp [upd, ee8, ee0, ee9, ee6])]; first | rfl | simp [go_sem]) fun F3 => ?_
          refine lyp F3 rfl HCC rfl (by omega) (want_yes F3 rfl (e := 38) rfl (by omega) (show _ = Value.bool true from by simp [upd, ee8, ee0, ee9, ee6])) (v := Value.pointer (some ⟨rb, 0, none⟩)) (fun wr hwr => by simp only [execOp, (F3.eval 0 (by omega)).trans (show _ = Value.pointer (some ⟨rb, 0, none⟩) from by simp [upd, ee8, ee0, ee9, ee6])]; first | rfl | simp [go_sem]) fun F4 => ?_
          refine lyp F4 rfl HCC rfl (by omega) (want_yes F4 rfl (e := 38) rfl (by omega) (show _ = Value.bool true from by simp [upd, ee8, ee0, ee9, ee6])) (v := Value.pointer (some ⟨rb, 0, none⟩)) (fun wr hwr => by simp only [execOp, (F4.eval 39 (by omega)).trans (show _ = Value.pointer (some ⟨rb, 0, none⟩) from by simp [upd, ee8, ee0, ee9, ee6])]; simp [go_sem]) fun F5 => ?_
          refine lyp F5 rfl HCC rfl (by omega) (want_yes F5 rfl (e := 38) rfl (by omega) (show _ = Value.bool true from by simp [upd, ee8, ee0, ee9, ee6])) (v := Value.pointer (some ⟨rb, 0, none⟩)) (fun wr hwr => by simp only [execOp, (F5.eval 40 (by omega)).trans (show _ = Value.pointer (some ⟨rb, 0, none⟩) from by simp [upd, ee8, ee0, ee9, ee6])]; simp [go_sem]) fun F6 => ?_
          refine lyp F6 rfl HCC rfl (by omega) (want_yes F6 rfl (e := 38) rfl (by omega) (show _ = Value.bool true from by simp [upd, ee8, ee0, ee9, ee6])) (v := Value.slice (some ⟨g, 0, none⟩) N rc) (fun wr hwr => by simp only [execOp, (F6.eval 41 (by omega)).trans (show _ = Value.pointer (some ⟨rb, 0, none⟩) from by simp [upd, ee8, ee0, ee9, ee6])]; simp [go_sem, show wr.cell? ⟨rb, 0, none⟩ = some (.slice (some ⟨g, 0, none⟩) N rc) from hwr.1.cell 0]) fun F7 => ?_
          refine lyp F7 rfl HCC rfl (by omega) (want_yes F7 rfl (e := 38) rfl (by omega) (show _ = Value.bool true from by simp [upd, ee8, ee0, ee9, ee6])) (v := Value.int .i64 (q : Nat)) (fun wr hwr => by simp only [execOp, (F7.eval 9 (by omega)).trans (show _ = Value.int .i64 (q : Nat) from by simp [upd, ee8, ee0, ee9, ee6])]; first | rfl | simp [go_sem]) fun F8 => ?_
          refine lyp F8 rfl HCC rfl (by omega) (want_yes F8 rfl (e := 38) rfl (by omega) (show _ = Value.bool true from by simp [upd, ee8, ee0, ee9, ee6])) (v := Value.pointer (some ⟨g, q * 5, none⟩)) (fun wr hwr => by simp only [execOp, (F8.eval 42 (by omega)).trans (show _ = Value.slice (some ⟨g, 0, none⟩) N rc from by simp [upd, ee8, ee0, ee9, ee6]), (F8.eval 43 (by omega)).trans (show _ = Value.int .i64 (q : Nat) from by simp [upd, ee8, ee0, ee9, ee6])]; simp only [Sem.run_bind, Sem.run_pure, Result.andThen_ok, idx_run 88 94 5 Try.underlying88 (by kernel_rfl) wr g 0 N rc q (by omega), Nat.zero_add]; try rfl) fun F9 => ?_
          refine lyp F9 rfl HCC rfl (by omega) (want_yes F9 rfl (e := 38) rfl (by omega) (show _ = Value.bool true from by simp [upd, ee8, ee0, ee9, ee6])) (v := Value.pointer (some ⟨g, q * 5, none⟩)) (fun wr hwr => by simp only [execOp, (F9.eval 44 (by omega)).trans (show _ = Value.pointer (some ⟨g, q * 5, none⟩) from by simp [upd, ee8, ee0, ee9, ee6])]; simp [go_sem]) fun F10 => ?_
          refine lyp F10 rfl HCC rfl (by omega) (want_yes F10 rfl (e := 38) rfl (by omega) (show _ = Value.bool true from by simp [upd, ee8, ee0, ee9, ee6])) (v := Value.string ⟨c.nm.toArray⟩) (fun wr hwr => by simp only [execOp, (F10.eval 45 (by omega)).trans (show _ = Value.pointer (some ⟨g, q * 5, none⟩) from by simp [upd, ee8, ee0, ee9, ee6])]; simp [go_sem, hwr.2.2]) fun F11 => ?_
          refine lyp F11 rfl HCC rfl (by omega) (want_yes F11 rfl (e := 38) rfl (by omega) (show _ = Value.bool true from by simp [upd, ee8, ee0, ee9, ee6])) (v := Value.pointer (some ⟨cb, 0, none⟩)) (fun wr hwr => by simp only [execOp, (F11.eval 6 (by omega)).trans (show _ = Value.pointer (some ⟨cb, 0, none⟩) from by simp [upd, ee8, ee0, ee9, ee6])]; simp [go_sem]) fun F12 => ?_
          refine lyp F12 rfl HCC rfl (by omega) (want_yes F12 rfl (e := 38) rfl (by omega) (show _ = Value.bool true from by simp [upd, ee8, ee0, ee9, ee6])) (v := Value.string ⟨n.toArray⟩) (fun wr hwr => by simp only [execOp, (F12.eval 47 (by omega)).trans (show _ = Value.pointer (some ⟨cb, 0, none⟩) from by simp [upd, ee8, ee0, ee9, ee6])]; simp [go_sem, show wr.cell? ⟨cb, 0, none⟩ = some (.string ⟨n.toArray⟩) from hwr.2.1.cell 0]) fun F13 => ?_
          refine lyp F13 rfl HCC rfl (by omega) (want_yes F13 rfl (e := 38) rfl (by omega) (show _ = Value.bool true from by simp [upd, ee8, ee0, ee9, ee6])) (v := Value.bool false) (fun wr hwr => by simp only [execOp, (F13.eval 46 (by omega)).trans (show _ = Value.string ⟨c.nm.toArray⟩ from by simp [upd, ee8, ee0, ee9, ee6]), (F13.eval 48 (by omega)).trans (show _ = Value.string ⟨n.toArray⟩ from by simp [upd, ee8, ee0, ee9, ee6])]; simp [go_sem, Act.eval, hgt]) fun F14 => ?_
          refine lyp F14 rfl HCC rfl (by omega) (wanted_none rfl) (v := Value.bool false) (fun wr hwr => by simp only [execOp, (F14.eval 38 (by omega)).trans (show _ = Value.bool true from by simp [upd, ee8, ee0, ee9, ee6]), (F14.eval 49 (by omega)).trans (show _ = Value.bool false from by simp [upd, ee8, ee0, ee9, ee6])]; simp [go_sem, Act.eval]) fun F15 => ?_
          refine ⟨fun _ => HCC, ?_⟩
          first | refine hKK _ _ ?_ | skip
          clear F0 F1 F2 F3 F4 F5 F6 F7 F8 F9 F10 F11 F12 F13 F14 F15 ee8 ee0 ee9 ee6 HCC
          simp only [Act.put, List.setIfInBounds_toArray, List.set_cons_succ, List.set_cons_zero]
          rw [← HUq.out]
          clear HUq x0 x1 x2 x3 x4 k0 k1 k2 k3 k4 b0
          go_wp2_with (at_builtin; refine wpList_runs rfl _ _ 88 rfl rfl rfl HRN.out ?_)
          go_roundw
          case rel => exact ⟨q + 1, false, _, P ++ [c], rfl, by omega, by (rw [List.length_append, ← HM.out]; simp; try omega), rfl, by go_num, HT.out, HT9.out, HB2.out⟩
          case measure => simp [intOf]; omega
    · have hdr : M.drop q = [] := List.drop_eq_nil_of_le (by rw [← HN.out]; omega)
      have fr0 : wr.frozen? ⟨rb, 0, none⟩ = false := HRB0.out.frozen 0
      cases b with
      | true =>
        simp only [Bool.toNat_true] at hPl
        have HPE : Hid (P = insR c0 M) := show _ = _ from by have := HP.out; rw [hdr] at this; simpa [restR] using this
        have hS : Chg (fun k => k = rb) wr (wr.setCell ⟨rb, 0, none⟩ (.slice uo m uc)) := setCell_chg _ _ _ _
        have HFM : Hid (RDone B0 rb (.slice ro N rc) w (insR c0 M) (wr.setCell ⟨rb, 0, none⟩ (.slice uo m uc))) := ⟨⟨.slice uo m uc, ⟨HRB0.out.set 0 _, by
            rw [← HPE.out, ← HM.out]
            refine ownsRow_mono (ownsRow_same HU.out (fun kk hk => hS.block kk (ownsRow_lt HU.out hk).2 (fun e => ?_))) (by have := HBY.out.size; have := HL0.out; omega)
            obtain ⟨cu, hcu⟩ := ownsRow_type HU.out hk
            exact Blk.ne_t (show Blk wr kk cu 94 from hcu) HRB0.out (by decide) e⟩, fun kk hk => Or.inr (by have := (ownsRow_lt HU.out hk).1; have := HBY.out.size; omega)⟩, (Chg.ofBelow _ (HBY.out.trans (HBW.out.mono HBY.out.size))).trans hS (fun j _ e => Or.inl e)⟩
        clear hdr hS
        go_wp2_with fail
        go_ret2
        exact ⟨rfl, HFM.out⟩
      | false =>
        simp only [Bool.toNat_false] at hPl
        have HPE : Hid (P ++ [c0] = insR c0 M) := show _ = _ from by have := HP.out; rw [hdr] at this; simpa [restR, insR] using this
        obtain ⟨vn, wn, n1, n2, n3⟩ := app_one 88 94 (.agg #[.string ⟨#[]⟩, .int .i64 0, .int .i64 0, .slice none 0 0, .slice none 0 0]) 5 80 Try.underlying88 info94 rfl (by decide) (by decide) HU.out #[.string ⟨n.toArray⟩, .int .i64 A, .int .i64 B, .slice none 0 0, .slice none 0 0] rfl (fun u hu => by simp at hu; rcases hu with rfl | rfl | rfl | rfl | rfl <;> rfl) (by omega) HBW.out.size
        have HTN0 : Hid (wn.ownsRow Y.heap.size 94 5 vn (m + 1) (flatR (P ++ [c0]))) := show World.ownsRow wn Y.heap.size 94 5 vn (m + 1) (flatR (P ++ [c0])) from by rw [flatR_app, HC0.out]; exact n2
        have HBn : Hid (Below Y.heap.size Y wn) := HBW.out.trans (n3.below (fun j hj => (ownsRow_lt HU.out hj).1) HBW.out.size)
        have HBnw : Hid (Below w.heap.size wr wn) := n3.below (fun j hj => by have := (ownsRow_lt HU.out hj).1; have := HBY.out.size; omega) HWR.out.size
        obtain ⟨no, nc, hnv, _⟩ := own_slice HTN0.out
        subst hnv
        have HTN : Hid (wn.ownsRow Y.heap.size 94 5 (.slice no (m + 1) nc) (m + 1) (flatR (P ++ [c0]))) := HTN0.out
        have HRNN : Hid _ := n1
        clear n1 n2 n3 HTN0
        have hRB5 : Blk wn rb #[.slice ro N rc] 90 := HRB0.out.below (HBnw.out) (by have := HBR.out.lt; exact this)
        have fr5 : wn.frozen? ⟨rb, 0, none⟩ = false := hRB5.frozen 0
        have b5 : wn.cell? ⟨rb, 0, none⟩ = some (.slice ro N rc) := hRB5.cell 0
        have hS : Chg (fun k => k = rb) wn (wn.setCell ⟨rb, 0, none⟩ (.slice no (m + 1) nc)) := setCell_chg _ _ _ _
        have HFM : Hid (RDone B0 rb (.slice ro N rc) w (insR c0 M) (wn.setCell ⟨rb, 0, none⟩ (.slice no (m + 1) nc))) := ⟨⟨.slice no (m + 1) nc, ⟨hRB5.set 0 _, by
            rw [← HPE.out, List.length_append, ← HM.out]
            refine ownsRow_mono (ownsRow_same HTN.out (fun kk hk => hS.block kk (ownsRow_lt HTN.out hk).2 (fun e => ?_))) (by have := HBY.out.size; have := HL0.out; omega)
            obtain ⟨cu, hcu⟩ := ownsRow_type HTN.out hk
            exact Blk.ne_t (show Blk wn kk cu 94 from hcu) hRB5 (by decide) e⟩, fun kk hk => Or.inr (by have := (ownsRow_lt HTN.out hk).1; have := HBY.out.size; omega)⟩, (Chg.ofBelow _ (HBY.out.trans (HBn.out.mono HBY.out.size))).trans hS (fun j _ e => Or.inl e)⟩
        clear hdr hS hRB5
        go_wp2_with (at_builtin; refine wpList_runs rfl _ _ 88 rfl rfl rfl HRNN.out ?_)
        go_ret2
        exact ⟨rfl, HFM.out⟩
end Go.Proofs.Ytaiknlnjahjeiaa
