import Derived.Test.YtbjlaloofpdbfaaR5
namespace Go.Proofs.Ytbjlaloofpdbfaa
open Go.RowKit Go.PlainAid
set_option linter.unusedVariables false
set_option linter.unusedSimpArgs false
set_option maxRecDepth 100000 in
set_option maxHeartbeats 1600000 in
theorem before_any (a b : Int × Int) (w : World) : Calls Try.prog 88 #[.agg #[.int .i64 a.1, .int .i64 a.2], .agg #[.int .i64 b.1, .int .i64 b.2]] w fun e w' => e = .returned (.bool (ltC a b)) ∧ Below w.heap.size w w' := by
  have hb1 : Below w.heap.size w (w.alloc (.cells #[.int .i64 a.1, .int .i64 a.2] 37)) := (Below.refl _ _).alloc (Nat.le_refl _) _
  have HB : Hid (∀ p q r s : Int, Below w.heap.size w ((w.alloc (.cells #[.int .i64 p, .int .i64 q] 37)).alloc (.cells #[.int .i64 r, .int .i64 s] 37))) := fun p q r s => by
    have h1 : Below w.heap.size w (w.alloc (.cells #[.int .i64 p, .int .i64 q] 37)) := (Below.refl _ _).alloc (Nat.le_refl _) _
    exact h1.alloc h1.size _
  clear hb1
  by_cases h1 : a.1 < b.1
  · rw [show ltC a b = true from by rw [ltC_iff]; exact Or.inl h1]
    go_enter Try.func88, Try.ntmps88
    go_wp2_with fail
    go_ret
    exact ⟨rfl, HB.out _ _ _ _⟩
  by_cases h2 : a.1 = b.1
  · by_cases h3 : a.2 < b.2
    · rw [show ltC a b = true from by rw [ltC_iff]; exact Or.inr ⟨h2, h3⟩]
      go_enter Try.func88, Try.ntmps88
      go_wp2_with fail
      go_ret
      exact ⟨rfl, HB.out _ _ _ _⟩
    · rw [show ltC a b = false from by rw [ltC_no]; omega]
      go_enter Try.func88, Try.ntmps88
      go_wp2_with fail
      go_ret
      exact ⟨rfl, HB.out _ _ _ _⟩
  · rw [show ltC a b = false from by rw [ltC_no]; omega]
    go_enter Try.func88, Try.ntmps88
    go_wp2_with fail
    go_ret
    exact ⟨rfl, HB.out _ _ _ _⟩
theorem makeC_run (n : Nat) (hn : n ≤ 100000) (w : World) : (Instr.makeSlice 45 (.int .i64 (n : Int)) (.int .i64 (n : Int))).run Try.prog w = .ok (.slice (some ⟨w.heap.size, 0, none⟩) n n) (w.alloc (.cells (flatC (List.replicate n (0, 0))).toArray 37)) := by
  obtain ⟨i0, hi, hz0, hz1, hz2⟩ := info_parts info37
  have hr := run_make (P := Try.prog) w 45 37 i0 _ Try.underlying45 hi hz0 .i64 .i64 n n (by omega) (Int.le_refl _) (by rw [hz2]; omega) (by omega)
  simp only [Int.toNat_natCast] at hr
  rw [hz1] at hr
  rw [hr]
  have e0 : ∀ n : Nat, flatC (List.replicate n (0, 0)) = List.replicate (n * 2) (.int .i64 0) := fun n => by
    induction n with
    | zero => rfl
    | succ n ih =>
      rw [show (n + 1) * 2 = n * 2 + 1 + 1 by omega, List.replicate_succ, List.replicate_succ, List.replicate_succ, ← ih]
      rfl
  have e : madeCells (Value.agg #[.int .i64 0, .int .i64 0]).cells (n * 2) = (flatC (List.replicate n (0, 0))).toArray := by
    rw [e0]
    apply Array.ext_getElem?
    intro j
    simp only [madeCells, Value.cells]
    by_cases hj : j < n * 2
    · have h2 : j % 2 = 0 ∨ j % 2 = 1 := by omega
      rcases h2 with h2 | h2 <;> simp [hj, h2]
    · simp [hj]
  rw [e]
theorem flatC_set {zs : List (Int × Int)} {k : Nat} (h : k < zs.length) (a b : Int) : ((flatC zs).set (k * 2) (.int .i64 a)).set (k * 2 + 1) (.int .i64 b) = flatC (zs.set k (a, b)) := by
  induction zs generalizing k with
  | nil => simp at h
  | cons x t ih =>
    cases k with
    | zero => simp [flatC]
    | succ k =>
      have := ih (k := k) (by simpa using h)
      simp only [flatC, List.flatMap_cons, List.set_cons_succ] at this ⊢
      rw [← this, show (k + 1) * 2 = k * 2 + 1 + 1 by omega, show k * 2 + 1 + 1 + 1 = (k * 2 + 1) + 1 + 1 by omega]
      simp
theorem own_setC {w : World} {L n g cap k : Nat} {zs : List (Int × Int)} (h : w.ownsRow L 37 2 (.slice (some ⟨g, 0, none⟩) n cap) n (flatC zs)) (hk : k < n) (z : Int × Int) :
    ((w.setCell ⟨g, k * 2, none⟩ (.int .i64 z.1)).setCell ⟨g, k * 2 + 1, none⟩ (.int .i64 z.2)).ownsRow L 37 2 (.slice (some ⟨g, 0, none⟩) n cap) n (flatC (zs.set k z)) ∧ w.frozen? ⟨g, k * 2, none⟩ = false ∧ w.frozen? ⟨g, k * 2 + 1, none⟩ = false ∧ ∃ u v, w.cell? ⟨g, k * 2, none⟩ = some (.int .i64 u) ∧ w.cell? ⟨g, k * 2 + 1, none⟩ = some (.int .i64 v) := by
  have hl : zs.length = n := by have := h.1; rw [flatC_length] at this; omega
  rcases h.2 with ⟨h1, _⟩ | ⟨g2, c, cur, h1, h2, h3, h4, h5, h6, h7⟩
  · cases h1
  · cases h1
    have hB : Blk w g cur 37 := h3
    obtain ⟨x, hx⟩ : ∃ x, zs[k]? = some x := ⟨zs[k], List.getElem?_eq_getElem (by omega)⟩
    have key : ∀ j u, j < 2 → (Ccs x)[j]? = some u → w.cell? ⟨g, k * 2 + j, none⟩ = some u := fun j u hj hu => by
      have := h.cells (g := g) rfl (k * 2 + j) u (by rw [flatC_get zs k j x hx hj]; exact hu)
      rw [addr_add, Nat.zero_add] at this
      exact this
    refine ⟨⟨by rw [flatC_length]; simp [hl], Or.inr ⟨g, cap, (cur.setIfInBounds (k * 2) (.int .i64 z.1)).setIfInBounds (k * 2 + 1) (.int .i64 z.2), rfl, h2, (hB.set (k * 2) _).set (k * 2 + 1) _, h4, h5, by simpa using h6, ?_⟩⟩, hB.frozen _, hB.frozen _, x.1, x.2, key 0 _ (by decide) rfl, key 1 _ (by decide) rfl⟩
    rw [Array.toList_setIfInBounds, Array.toList_setIfInBounds, List.take_set, List.take_set, h7]
    exact flatC_set (by omega) z.1 z.2
structure AskI (w : World) (n : Nat) (CL : List (Int × Int)) (i : Nat) (outs : List (Int × Int)) (wr : World) : Prop where
  pl : Placed ltC CL i outs
  row : wr.ownsRow w.heap.size 37 2 (.slice (some ⟨w.heap.size, 0, none⟩) n n) n (flatC outs)
  bel : Below w.heap.size w wr
set_option maxRecDepth 100000 in
set_option maxHeartbeats 1600000 in
theorem rasked_any {B rb : Nat} {kl wl : Value} {me rep per : Int} {KL : List (List UInt8)} {WL : List ((Int × Int) × OpA)} (w : World) (hT : RT B rb kl wl me rep per KL WL w) (hL : WL.length ≤ 100000) {S : List (Int × Int)} (hp : S.Perm (WL.map (·.1))) (hs : S.Pairwise (fun a b => ltC a b = true)) :
    Calls Try.prog 68 #[.pointer (some ⟨rb, 0, none⟩)] w fun e w' => ∃ v, e = .returned v ∧ w'.ownsRow w.heap.size 37 2 v S.length (flatC S) ∧ Below w.heap.size w w' := by
  obtain ⟨ao, kc, hv, _⟩ := own_slice hT.wr
  have c4 := hT.c4
  rw [hv] at c4
  have hmk := makeC_run WL.length hL
  obtain ⟨X, hX⟩ : ∃ X, X = w.alloc (.cells (flatC (List.replicate WL.length (0, 0))).toArray 37) := ⟨_, rfl⟩
  have hbX : Below w.heap.size w X := by rw [hX]; exact (Below.refl _ _).alloc (Nat.le_refl _) _
  have HI0 : Hid (AskI w WL.length (WL.map (·.1)) 0 (List.replicate WL.length (0, 0)) X) := by
    refine ⟨⟨by simp, fun j x hj => by omega⟩, ?_, hbX⟩
    refine ⟨by rw [flatC_length]; simp, Or.inr ⟨w.heap.size, WL.length, (flatC (List.replicate WL.length (0, 0))).toArray, rfl, Nat.le_refl _, by rw [hX]; exact heap_alloc_new w _, Nat.le_refl _, by unfold maxLen; omega, by simp [flatC_length], ?_⟩⟩
    exact List.take_of_length_le (by simp [flatC_length])
  have HT : Hid _ := hT
  have HV : Hid (wl = .slice ao WL.length kc) := hv
  have HC4 : Hid (∀ wr, Below w.heap.size w wr → wr.cell? ⟨rb, 4, none⟩ = some (.slice ao WL.length kc)) := fun wr hw => (hw.cell (p := ⟨rb, 4, none⟩) (World.block_lt_of_cell? w _ c4)).trans c4
  have HP : Hid _ := hp
  have HS : Hid _ := hs
  have hml : (WL.map (·.1)).length = WL.length := by simp
  clear hT hv hbX hp hs
  go_enter Try.func68, Try.ntmps68
  go_wp2_with fail
  rw [← hX]
  clear hX hmk c4
  go_loopw [4] (fun s4 wr => ∃ i : Nat, i ≤ WL.length ∧ s4 = .int .i64 i ∧ ∃ outs, AskI w WL.length (WL.map (·.1)) i outs wr) (fun s4 _ => WL.length - (intOf s4).toNat)
  case atStart => exact ⟨0, Nat.zero_le _, rfl, _, HI0.out⟩
  case round =>
    obtain ⟨i, hi, rfl, outs, hA⟩ := hrel
    obtain ⟨wo, hwo⟩ : ∃ wo, wo = wr := ⟨_, rfl⟩
    subst hwo
    clear HI0
    have XKr := HC4.out wo hA.bel
    by_cases hil : i < WL.length
    · obtain ⟨x, hx⟩ : ∃ x, WL[i]? = some x := ⟨WL[i], List.getElem?_eq_getElem hil⟩
      have hili : (i : Int) < (WL.length : Int) := by omega
      have HTr : Hid _ := HT.out.more hA.bel
      have HA : Hid _ := hA
      have HX : Hid (WL[i]? = some x) := hx
      have HXM : Hid ((WL.map (·.1))[i]? = some x.1) := show (WL.map (·.1))[i]? = some x.1 from by rw [List.getElem?_map, hx]; rfl
      have HQ0 : Hid _ := Below.refl wo.heap.size wo
      clear hA hx
      go_wp2_with fail
      go_loopw [5, 6] (fun s5 s6 wr => ∃ j : Nat, j ≤ WL.length ∧ s6 = .int .i64 j ∧ s5 = .int .i64 (((WL.map (·.1)).take j).countP (fun y => ltC y x.1) : Nat) ∧ Below wo.heap.size wo wr) (fun _ s6 _ => WL.length - (intOf s6).toNat)
      case atStart => exact ⟨0, Nat.zero_le _, rfl, rfl, HQ0.out⟩
      case round =>
        obtain ⟨j, hj, rfl, rfl, hbq⟩ := hrel
        have hTq := HTr.out.more hbq
        have XK : wr.cell? ⟨rb, 4, none⟩ = some (.slice ao WL.length kc) := by
          have := hTq.c4
          rw [HV.out] at this
          exact this
        obtain ⟨kg, kc2, hv2, XI⟩ := askAt hTq.wr HX.out
        rw [HV.out] at hv2
        cases hv2
        by_cases hjl : j < WL.length
        · obtain ⟨y, hy⟩ : ∃ y, WL[j]? = some y := ⟨WL[j], List.getElem?_eq_getElem hjl⟩
          have hjli : (j : Int) < (WL.length : Int) := by omega
          obtain ⟨kg2, kc2, hv2, XJ⟩ := askAt hTq.wr hy
          rw [HV.out] at hv2
          cases hv2
          clear hTq
          cases hsl : ltC y.1 x.1 with
          | true =>
            have HBF : Hid (∀ w, Calls Try.prog 88 #[Value.agg #[.int .i64 y.1.1, .int .i64 y.1.2], Value.agg #[.int .i64 x.1.1, .int .i64 x.1.2]] w fun e w' => e = .returned (.bool true) ∧ Below w.heap.size w w') := fun w => by
              have := before_any y.1 x.1 w
              rw [hsl] at this
              exact this
            have HSU : Hid (((WL.map (·.1)).take (j + 1)).countP (fun y => ltC y x.1) = ((WL.map (·.1)).take j).countP (fun y => ltC y x.1) + 1) := show ((WL.map (·.1)).take (j + 1)).countP (fun y => ltC y x.1) = ((WL.map (·.1)).take j).countP (fun y => ltC y x.1) + 1 from by rw [List.take_add_one, List.getElem?_map, hy, List.countP_append]; simp [hsl]
            have hcl : ((WL.map (·.1)).take j).countP (fun y => ltC y x.1) ≤ ((WL.map (·.1)).take j).length := List.countP_le_length
            rw [List.length_take] at hcl
            generalize hcg : ((WL.map (·.1)).take j).countP (fun y => ltC y x.1) = c at *
            have hwc : IntKind.i64.wrap ((c : Int) + 1) = (c : Int) + 1 := by rw [IntKind.wrap_i64]; omega
            have HBQ : Hid _ := hbq
            clear hy hsl hbq hcl hcg
            go_wp2_with fail
            rename_i K hK
            try rw [show ∀ a : Act, a.put none undef = a from fun _ => rfl]
            refine wp_region_mix (fun wz => Below wr.heap.size wr wz) (fun i => i == 16 || i == 99) 99 (by kernel_rfl) rfl (by kernel_rfl) (by kernel_rfl) (by kernel_rfl) ?_
            refine withFrP (N := 64) rfl ?_
            intro f0 F0 hff
            have e0 : f0 0 = Value.pointer (some ⟨rb, 0, none⟩) := hff 0
            have e4 : f0 4 = Value.int .i64 (i : Int) := hff 4
            have e6 : f0 6 = Value.int .i64 (j : Int) := hff 6
            clear hff
            have HCC : (fun wz => Below wr.heap.size wr wz) (({ wr with drawn := wr.drawn + 1 } : World)) := (Below.drew (Below.refl wr.heap.size wr))
            have V4 : ∀ wz, Below wr.heap.size wr wz → wz.cell? ⟨rb, 4, none⟩ = some (.slice (some ⟨kg, 0, none⟩) WL.length kc) := fun wz hw => (hw.cell (p := ⟨rb, 4, none⟩) (World.block_lt_of_cell? wr _ XK)).trans XK
            have VI : ∀ wz, Below wr.heap.size wr wz → AskAt wz kg i x := fun wz hw => XI.keep hw
            have VJ : ∀ wz, Below wr.heap.size wr wz → AskAt wz kg j y := fun wz hw => XJ.keep hw
            refine lyp F0 rfl HCC rfl (by omega) (wanted_none rfl) (v := Value.pointer (some ⟨rb, 0, none⟩)) (fun wr hwr => by simp only [execOp, (F0.eval 0 (by omega)).trans (show _ = Value.pointer (some ⟨rb, 0, none⟩) from by simp [upd, e0, e4, e6])]; first | rfl | simp [go_sem]) fun F1 => ?_
            refine lyp F1 rfl HCC rfl (by omega) (wanted_none rfl) (v := Value.pointer (some ⟨rb, 0, none⟩)) (fun wr hwr => by simp only [execOp, (F1.eval 32 (by omega)).trans (show _ = Value.pointer (some ⟨rb, 0, none⟩) from by simp [upd, e0, e4, e6])]; simp [go_sem]) fun F2 => ?_
            refine lyp F2 rfl HCC rfl (by omega) (wanted_none rfl) (v := Value.pointer (some ⟨rb, 4, none⟩)) (fun wr hwr => by simp only [execOp, (F2.eval 33 (by omega)).trans (show _ = Value.pointer (some ⟨rb, 0, none⟩) from by simp [upd, e0, e4, e6])]; simp [go_sem]) fun F3 => ?_
            refine lyp F3 rfl HCC rfl (by omega) (wanted_none rfl) (v := Value.slice (some ⟨kg, 0, none⟩) WL.length kc) (fun wr hwr => by simp only [execOp, (F3.eval 34 (by omega)).trans (show _ = Value.pointer (some ⟨rb, 4, none⟩) from by simp [upd, e0, e4, e6])]; simp [go_sem, V4 _ hwr]) fun F4 => ?_
            refine lyp F4 rfl HCC rfl (by omega) (wanted_none rfl) (v := Value.int .i64 (j : Int)) (fun wr hwr => by simp only [execOp, (F4.eval 6 (by omega)).trans (show _ = Value.int .i64 (j : Int) from by simp [upd, e0, e4, e6])]; first | rfl | simp [go_sem]) fun F5 => ?_
            refine lyp F5 rfl HCC rfl (by omega) (wanted_none rfl) (v := Value.pointer (some ⟨kg, j * 6, none⟩)) (fun wr hwr => by simp only [execOp, (F5.eval 35 (by omega)).trans (show _ = Value.slice (some ⟨kg, 0, none⟩) WL.length kc from by simp [upd, e0, e4, e6]), (F5.eval 36 (by omega)).trans (show _ = Value.int .i64 (j : Int) from by simp [upd, e0, e4, e6])]; simp [go_sem, hjl]) fun F6 => ?_
            refine lyp F6 rfl HCC rfl (by omega) (wanted_none rfl) (v := Value.pointer (some ⟨kg, j * 6, none⟩)) (fun wr hwr => by simp only [execOp, (F6.eval 37 (by omega)).trans (show _ = Value.pointer (some ⟨kg, j * 6, none⟩) from by simp [upd, e0, e4, e6])]; simp [go_sem]) fun F7 => ?_
            refine lyp F7 rfl HCC rfl (by omega) (wanted_none rfl) (v := Value.agg #[.int .i64 y.1.1, .int .i64 y.1.2]) (fun wr hwr => by simp only [execOp, (F7.eval 38 (by omega)).trans (show _ = Value.pointer (some ⟨kg, j * 6, none⟩) from by simp [upd, e0, e4, e6])]; simp [go_sem, (VJ _ hwr).c0, (VJ _ hwr).c1]) fun F8 => ?_
            refine lyp F8 rfl HCC rfl (by omega) (wanted_none rfl) (v := Value.pointer (some ⟨rb, 0, none⟩)) (fun wr hwr => by simp only [execOp, (F8.eval 0 (by omega)).trans (show _ = Value.pointer (some ⟨rb, 0, none⟩) from by simp [upd, e0, e4, e6])]; first | rfl | simp [go_sem]) fun F9 => ?_
            refine lyp F9 rfl HCC rfl (by omega) (wanted_none rfl) (v := Value.pointer (some ⟨rb, 0, none⟩)) (fun wr hwr => by simp only [execOp, (F9.eval 40 (by omega)).trans (show _ = Value.pointer (some ⟨rb, 0, none⟩) from by simp [upd, e0, e4, e6])]; simp [go_sem]) fun F10 => ?_
            refine lyp F10 rfl HCC rfl (by omega) (wanted_none rfl) (v := Value.pointer (some ⟨rb, 4, none⟩)) (fun wr hwr => by simp only [execOp, (F10.eval 41 (by omega)).trans (show _ = Value.pointer (some ⟨rb, 0, none⟩) from by simp [upd, e0, e4, e6])]; simp [go_sem]) fun F11 => ?_
            refine lyp F11 rfl HCC rfl (by omega) (wanted_none rfl) (v := Value.slice (some ⟨kg, 0, none⟩) WL.length kc) (fun wr hwr => by simp only [execOp, (F11.eval 42 (by omega)).trans (show _ = Value.pointer (some ⟨rb, 4, none⟩) from by simp [upd, e0, e4, e6])]; simp [go_sem, V4 _ hwr]) fun F12 => ?_
            refine lyp F12 rfl HCC rfl (by omega) (wanted_none rfl) (v := Value.int .i64 (i : Int)) (fun wr hwr => by simp only [execOp, (F12.eval 4 (by omega)).trans (show _ = Value.int .i64 (i : Int) from by simp [upd, e0, e4, e6])]; first | rfl | simp [go_sem]) fun F13 => ?_
            refine lyp F13 rfl HCC rfl (by omega) (wanted_none rfl) (v := Value.pointer (some ⟨kg, i * 6, none⟩)) (fun wr hwr => by simp only [execOp, (F13.eval 43 (by omega)).trans (show _ = Value.slice (some ⟨kg, 0, none⟩) WL.length kc from by simp [upd, e0, e4, e6]), (F13.eval 44 (by omega)).trans (show _ = Value.int .i64 (i : Int) from by simp [upd, e0, e4, e6])]; simp [go_sem, hil]) fun F14 => ?_
            refine lyp F14 rfl HCC rfl (by omega) (wanted_none rfl) (v := Value.pointer (some ⟨kg, i * 6, none⟩)) (fun wr hwr => by simp only [execOp, (F14.eval 45 (by omega)).trans (show _ = Value.pointer (some ⟨kg, i * 6, none⟩) from by simp [upd, e0, e4, e6])]; simp [go_sem]) fun F15 => ?_
            refine lyp F15 rfl HCC rfl (by omega) (wanted_none rfl) (v := Value.agg #[.int .i64 x.1.1, .int .i64 x.1.2]) (fun wr hwr => by simp only [execOp, (F15.eval 46 (by omega)).trans (show _ = Value.pointer (some ⟨kg, i * 6, none⟩) from by simp [upd, e0, e4, e6])]; simp [go_sem, (VI _ hwr).c0, (VI _ hwr).c1]) fun F16 => ?_
            refine lcp F16 rfl HCC rfl (by omega) (wanted_none rfl) (g := 88) (args := #[Value.agg #[.int .i64 y.1.1, .int .i64 y.1.2], Value.agg #[.int .i64 x.1.1, .int .i64 x.1.2]]) (by simp only [execOp, resolve, invoke, List.map_toArray, List.map_cons, List.map_nil, (F16.eval 39 (by omega)).trans (show _ = Value.agg #[.int .i64 y.1.1, .int .i64 y.1.2] from by simp [upd, e0, e4, e6]), (F16.eval 47 (by omega)).trans (show _ = Value.agg #[.int .i64 x.1.1, .int .i64 x.1.2] from by simp [upd, e0, e4, e6])]; simp [go_sem, Act.eval]) (HBF.out (({ wr with drawn := wr.drawn + 1 } : World))) ?_
            rintro e w8 ⟨rfl, hb8⟩
            refine ⟨_, rfl, fun F17 => ?_⟩
            have HC8 : (fun wz => Below wr.heap.size wr wz) w8 := HCC.trans hb8
            refine lyp F17 rfl HC8 rfl (by omega) (wanted_none rfl) (v := Value.bool true) (fun wr hwr => by simp only [execOp, (F17.eval 48 (by omega)).trans (show _ = Value.bool true from by simp [upd, e0, e4, e6])]; first | rfl | simp [go_sem]) fun F18 => ?_
            refine ⟨fun _ => HC8, ?_⟩
            refine hK _ _ ?_
            clear F0 F1 F2 F3 F4 F5 F6 F7 F8 F9 F10 F11 F12 F13 F14 F15 F16 F17 F18 e0 e4 e6 HCC V4 VI VJ
            simp only [Act.put, List.setIfInBounds_toArray, List.set_cons_succ, List.set_cons_zero]

            have HB2 : Hid (Below wo.heap.size wo w8) := HBQ.out.trans (HC8.mono HBQ.out.size)
            clear HC8 hb8 XK XI XJ
            go_wp2_with fail
            go_roundw
            case rel => exact ⟨j + 1, by omega, by go_num, by rw [HSU.out]; rfl, HB2.out⟩
            case measure => simp [intOf]; omega
          | false =>
            have HBF : Hid (∀ w, Calls Try.prog 88 #[Value.agg #[.int .i64 y.1.1, .int .i64 y.1.2], Value.agg #[.int .i64 x.1.1, .int .i64 x.1.2]] w fun e w' => e = .returned (.bool false) ∧ Below w.heap.size w w') := fun w => by
              have := before_any y.1 x.1 w
              rw [hsl] at this
              exact this
            have HSU : Hid (((WL.map (·.1)).take (j + 1)).countP (fun y => ltC y x.1) = ((WL.map (·.1)).take j).countP (fun y => ltC y x.1) + 0) := show ((WL.map (·.1)).take (j + 1)).countP (fun y => ltC y x.1) = ((WL.map (·.1)).take j).countP (fun y => ltC y x.1) + 0 from by rw [List.take_add_one, List.getElem?_map, hy, List.countP_append]; simp [hsl]
            have hcl : ((WL.map (·.1)).take j).countP (fun y => ltC y x.1) ≤ ((WL.map (·.1)).take j).length := List.countP_le_length
            rw [List.length_take] at hcl
            generalize hcg : ((WL.map (·.1)).take j).countP (fun y => ltC y x.1) = c at *
            have hwc : IntKind.i64.wrap ((c : Int) + 1) = (c : Int) + 1 := by rw [IntKind.wrap_i64]; omega
            have HBQ : Hid _ := hbq
            clear hy hsl hbq hcl hcg
            go_wp2_with fail
            rename_i K hK
            try rw [show ∀ a : Act, a.put none undef = a from fun _ => rfl]
            refine wp_region_mix (fun wz => Below wr.heap.size wr wz) (fun i => i == 16 || i == 99) 99 (by kernel_rfl) rfl (by kernel_rfl) (by kernel_rfl) (by kernel_rfl) ?_
            refine withFrP (N := 64) rfl ?_
            intro f0 F0 hff
            have e0 : f0 0 = Value.pointer (some ⟨rb, 0, none⟩) := hff 0
            have e4 : f0 4 = Value.int .i64 (i : Int) := hff 4
            have e6 : f0 6 = Value.int .i64 (j : Int) := hff 6
            clear hff
            have HCC : (fun wz => Below wr.heap.size wr wz) (({ wr with drawn := wr.drawn + 1 } : World)) := (Below.drew (Below.refl wr.heap.size wr))
            have V4 : ∀ wz, Below wr.heap.size wr wz → wz.cell? ⟨rb, 4, none⟩ = some (.slice (some ⟨kg, 0, none⟩) WL.length kc) := fun wz hw => (hw.cell (p := ⟨rb, 4, none⟩) (World.block_lt_of_cell? wr _ XK)).trans XK
            have VI : ∀ wz, Below wr.heap.size wr wz → AskAt wz kg i x := fun wz hw => XI.keep hw
            have VJ : ∀ wz, Below wr.heap.size wr wz → AskAt wz kg j y := fun wz hw => XJ.keep hw
            refine lyp F0 rfl HCC rfl (by omega) (wanted_none rfl) (v := Value.pointer (some ⟨rb, 0, none⟩)) (fun wr hwr => by simp only [execOp, (F0.eval 0 (by omega)).trans (show _ = Value.pointer (some ⟨rb, 0, none⟩) from by simp [upd, e0, e4, e6])]; first | rfl | simp [go_sem]) fun F1 => ?_
            refine lyp F1 rfl HCC rfl (by omega) (wanted_none rfl) (v := Value.pointer (some ⟨rb, 0, none⟩)) (fun wr hwr => by simp only [execOp, (F1.eval 32 (by omega)).trans (show _ = Value.pointer (some ⟨rb, 0, none⟩) from by simp [upd, e0, e4, e6])]; simp [go_sem]) fun F2 => ?_
            refine lyp F2 rfl HCC rfl (by omega) (wanted_none rfl) (v := Value.pointer (some ⟨rb, 4, none⟩)) (fun wr hwr => by simp only [execOp, (F2.eval 33 (by omega)).trans (show _ = Value.pointer (some ⟨rb, 0, none⟩) from by simp [upd, e0, e4, e6])]; simp [go_sem]) fun F3 => ?_
            refine lyp F3 rfl HCC rfl (by omega) (wanted_none rfl) (v := Value.slice (some ⟨kg, 0, none⟩) WL.length kc) (fun wr hwr => by simp only [execOp, (F3.eval 34 (by omega)).trans (show _ = Value.pointer (some ⟨rb, 4, none⟩) from by simp [upd, e0, e4, e6])]; simp [go_sem, V4 _ hwr]) fun F4 => ?_
            refine lyp F4 rfl HCC rfl (by omega) (wanted_none rfl) (v := Value.int .i64 (j : Int)) (fun wr hwr => by simp only [execOp, (F4.eval 6 (by omega)).trans (show _ = Value.int .i64 (j : Int) from by simp [upd, e0, e4, e6])]; first | rfl | simp [go_sem]) fun F5 => ?_
            refine lyp F5 rfl HCC rfl (by omega) (wanted_none rfl) (v := Value.pointer (some ⟨kg, j * 6, none⟩)) (fun wr hwr => by simp only [execOp, (F5.eval 35 (by omega)).trans (show _ = Value.slice (some ⟨kg, 0, none⟩) WL.length kc from by simp [upd, e0, e4, e6]), (F5.eval 36 (by omega)).trans (show _ = Value.int .i64 (j : Int) from by simp [upd, e0, e4, e6])]; simp [go_sem, hjl]) fun F6 => ?_
            refine lyp F6 rfl HCC rfl (by omega) (wanted_none rfl) (v := Value.pointer (some ⟨kg, j * 6, none⟩)) (fun wr hwr => by simp only [execOp, (F6.eval 37 (by omega)).trans (show _ = Value.pointer (some ⟨kg, j * 6, none⟩) from by simp [upd, e0, e4, e6])]; simp [go_sem]) fun F7 => ?_
            refine lyp F7 rfl HCC rfl (by omega) (wanted_none rfl) (v := Value.agg #[.int .i64 y.1.1, .int .i64 y.1.2]) (fun wr hwr => by simp only [execOp, (F7.eval 38 (by omega)).trans (show _ = Value.pointer (some ⟨kg, j * 6, none⟩) from by simp [upd, e0, e4, e6])]; simp [go_sem, (VJ _ hwr).c0, (VJ _ hwr).c1]) fun F8 => ?_
            refine lyp F8 rfl HCC rfl (by omega) (wanted_none rfl) (v := Value.pointer (some ⟨rb, 0, none⟩)) (fun wr hwr => by simp only [execOp, (F8.eval 0 (by omega)).trans (show _ = Value.pointer (some ⟨rb, 0, none⟩) from by simp [upd, e0, e4, e6])]; first | rfl | simp [go_sem]) fun F9 => ?_
            refine lyp F9 rfl HCC rfl (by omega) (wanted_none rfl) (v := Value.pointer (some ⟨rb, 0, none⟩)) (fun wr hwr => by simp only [execOp, (F9.eval 40 (by omega)).trans (show _ = Value.pointer (some ⟨rb, 0, none⟩) from by simp [upd, e0, e4, e6])]; simp [go_sem]) fun F10 => ?_
            refine lyp F10 rfl HCC rfl (by omega) (wanted_none rfl) (v := Value.pointer (some ⟨rb, 4, none⟩)) (fun wr hwr => by simp only [execOp, (F10.eval 41 (by omega)).trans (show _ = Value.pointer (some ⟨rb, 0, none⟩) from by simp [upd, e0, e4, e6])]; simp [go_sem]) fun F11 => ?_
            refine lyp F11 rfl HCC rfl (by omega) (wanted_none rfl) (v := Value.slice (some ⟨kg, 0, none⟩) WL.length kc) (fun wr hwr => by simp only [execOp, (F11.eval 42 (by omega)).trans (show _ = Value.pointer (some ⟨rb, 4, none⟩) from by simp [upd, e0, e4, e6])]; simp [go_sem, V4 _ hwr]) fun F12 => ?_
            refine lyp F12 rfl HCC rfl (by omega) (wanted_none rfl) (v := Value.int .i64 (i : Int)) (fun wr hwr => by simp only [execOp, (F12.eval 4 (by omega)).trans (show _ = Value.int .i64 (i : Int) from by simp [upd, e0, e4, e6])]; first | rfl | simp [go_sem]) fun F13 => ?_
            refine lyp F13 rfl HCC rfl (by omega) (wanted_none rfl) (v := Value.pointer (some ⟨kg, i * 6, none⟩)) (fun wr hwr => by simp only [execOp, (F13.eval 43 (by omega)).trans (show _ = Value.slice (some ⟨kg, 0, none⟩) WL.length kc from by simp [upd, e0, e4, e6]), (F13.eval 44 (by omega)).trans (show _ = Value.int .i64 (i : Int) from by simp [upd, e0, e4, e6])]; simp [go_sem, hil]) fun F14 => ?_
            refine lyp F14 rfl HCC rfl (by omega) (wanted_none rfl) (v := Value.pointer (some ⟨kg, i * 6, none⟩)) (fun wr hwr => by simp only [execOp, (F14.eval 45 (by omega)).trans (show _ = Value.pointer (some ⟨kg, i * 6, none⟩) from by simp [upd, e0, e4, e6])]; simp [go_sem]) fun F15 => ?_
            refine lyp F15 rfl HCC rfl (by omega) (wanted_none rfl) (v := Value.agg #[.int .i64 x.1.1, .int .i64 x.1.2]) (fun wr hwr => by simp only [execOp, (F15.eval 46 (by omega)).trans (show _ = Value.pointer (some ⟨kg, i * 6, none⟩) from by simp [upd, e0, e4, e6])]; simp [go_sem, (VI _ hwr).c0, (VI _ hwr).c1]) fun F16 => ?_
            refine lcp F16 rfl HCC rfl (by omega) (wanted_none rfl) (g := 88) (args := #[Value.agg #[.int .i64 y.1.1, .int .i64 y.1.2], Value.agg #[.int .i64 x.1.1, .int .i64 x.1.2]]) (by simp only [execOp, resolve, invoke, List.map_toArray, List.map_cons, List.map_nil, (F16.eval 39 (by omega)).trans (show _ = Value.agg #[.int .i64 y.1.1, .int .i64 y.1.2] from by simp [upd, e0, e4, e6]), (F16.eval 47 (by omega)).trans (show _ = Value.agg #[.int .i64 x.1.1, .int .i64 x.1.2] from by simp [upd, e0, e4, e6])]; simp [go_sem, Act.eval]) (HBF.out (({ wr with drawn := wr.drawn + 1 } : World))) ?_
            rintro e w8 ⟨rfl, hb8⟩
            refine ⟨_, rfl, fun F17 => ?_⟩
            have HC8 : (fun wz => Below wr.heap.size wr wz) w8 := HCC.trans hb8
            refine lyp F17 rfl HC8 rfl (by omega) (wanted_none rfl) (v := Value.bool false) (fun wr hwr => by simp only [execOp, (F17.eval 48 (by omega)).trans (show _ = Value.bool false from by simp [upd, e0, e4, e6])]; first | rfl | simp [go_sem]) fun F18 => ?_
            refine ⟨fun _ => HC8, ?_⟩
            refine hK _ _ ?_
            clear F0 F1 F2 F3 F4 F5 F6 F7 F8 F9 F10 F11 F12 F13 F14 F15 F16 F17 F18 e0 e4 e6 HCC V4 VI VJ
            simp only [Act.put, List.setIfInBounds_toArray, List.set_cons_succ, List.set_cons_zero]

            have HB2 : Hid (Below wo.heap.size wo w8) := HBQ.out.trans (HC8.mono HBQ.out.size)
            clear HC8 hb8 XK XI XJ
            go_wp2_with fail
            go_roundw
            case rel => exact ⟨j + 1, by omega, by go_num, by rw [HSU.out]; rfl, HB2.out⟩
            case measure => simp [intOf]; omega
        · have hjn : ¬ (j : Int) < (WL.length : Int) := by omega
          have hr : ((WL.map (·.1)).take j).countP (fun y => ltC y x.1) = rankOf ltC (WL.map (·.1)) x.1 := by rw [List.take_of_length_le (by rw [hml]; omega)]; rfl
          rw [hr]
          have hrl := rank_lt ltC_irr ltC_asy HP.out HS.out (List.mem_of_getElem? HXM.out)
          rw [hml] at hrl
          have HPS : Hid _ := Placed.step ltC_irr ltC_asy HP.out HS.out HA.out.pl HXM.out
          generalize rankOf ltC (WL.map (·.1)) x.1 = r at *
          have hrow : wr.ownsRow w.heap.size 37 2 (.slice (some ⟨w.heap.size, 0, none⟩) WL.length WL.length) WL.length (flatC outs) := ownsRow_same HA.out.row (fun g e => hbq.block g (ownsRow_lt HA.out.row e).2)
          obtain ⟨ho2, hfz, hfz2, u, v, hcz, hcz2⟩ := own_setC hrow hrl x.1
          have s1 : ∀ (W : World) (j : Nat) (v : Value), Below w.heap.size W (W.setCell ⟨w.heap.size, j, none⟩ v) := fun W j v => ⟨rfl, rfl, rfl, by simp [World.setCell], fun k hk => Below.heap_setCell _ _ _ _ (Nat.ne_of_lt hk)⟩
          have HFI : Hid (AskI w WL.length (WL.map (·.1)) (i + 1) (outs.set r x.1) ((wr.setCell ⟨w.heap.size, r * 2, none⟩ (.int .i64 x.1.1)).setCell ⟨w.heap.size, r * 2 + 1, none⟩ (.int .i64 x.1.2))) := ⟨HPS.out, ho2, ((HA.out.bel.trans (hbq.mono HA.out.bel.size)).trans (s1 _ _ _)).trans (s1 _ _ _)⟩
          have hrli : (r : Int) < (WL.length : Int) := by omega
          have x0 := XI.c0
          have x1 := XI.c1
          clear hrow ho2 hbq hTq hr s1
          go_wp2_with fail
          go_roundw
          case rel => exact ⟨i + 1, by omega, by go_num, _, HFI.out⟩
          case measure => simp [intOf]; omega
    · have hin : ¬ (i : Int) < (WL.length : Int) := by omega
      obtain rfl : i = WL.length := by omega
      have hpl : Placed ltC (WL.map (·.1)) (WL.map (·.1)).length outs := by rw [hml]; exact hA.pl
      have hd := hpl.done ltC_irr ltC_asy HP.out HS.out
      subst hd
      have HA : Hid _ := hA
      have HLN : Hid (outs.length = WL.length) := show outs.length = WL.length from by rw [HP.out.length_eq, hml]
      clear hA hpl
      go_wp2_with fail
      go_ret
      exact ⟨_, rfl, by rw [HLN.out]; exact HA.out.row, HA.out.bel⟩
end Go.Proofs.Ytbjlaloofpdbfaa
