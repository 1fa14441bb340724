import Derived.Test.YtmnihombiabkgaaRf0
namespace Go.Proofs.Ytmnihombiabkgaa
open Go.RowKit Go.PlainAid Go.MapKept
set_option linter.unusedVariables false
set_option linter.unusedSimpArgs false
theorem gone_step {n : Int} {l : List Tm} {j : Nat} {x : Tm} (h : l[j]? = some x) : gone n (l.take (j + 1)) = if x.num = n then gone n (l.take j) else gone n (l.take j) ++ [x] := by
  unfold gone
  rw [List.take_add_one, h, List.filter_append]
  by_cases e : x.num = n <;> simp [e]
theorem gone_le (n : Int) (l : List Tm) : (gone n l).length ≤ l.length := List.length_filter_le _ _
theorem gone_has (a : Int) (A : List Tm) : decide ((gone a A).length < A.length) = A.any (fun t => decide (t.num = a)) := by
  induction A with
  | nil => rfl
  | cons t A ih =>
    have hle := gone_le a A
    unfold gone at ih hle ⊢
    by_cases e : t.num = a
    · have h2 := List.length_filter_le (fun t : Tm => !decide (t.num = a)) A
      simp [e]; omega
    · simp [e]
      simpa using ih
set_option maxRecDepth 100000 in
set_option maxHeartbeats 3200000 in
theorem rcancel_any {base rb : Nat} {s : WV} {v : Value} (n : Int) (w : World) (h : RW base rb s v w) (hl : s.A.length ≤ 1000000) :
    Calls Try.prog 39 #[.pointer (some ⟨rb, 0, none⟩), .int .i64 n] w fun e w' => e = .returned (.bool (has n s)) ∧ ∃ v', RW base rb ⟨s.now, s.last, gone n s.A⟩ v' w' ∧ RStp rb v v' w w' := by
  have c2 : w.cell? ⟨rb, 2, none⟩ = some v := h.b.cell 2
  obtain ⟨ao, cap, hv, hcp⟩ := own_slice h.r
  obtain ⟨N, hN⟩ : ∃ N, N = s.A.length := ⟨_, rfl⟩
  rw [← hN] at hv hl hcp
  subst hv
  have HN : Hid (N = s.A.length) := hN
  have HR : Hid _ := h
  have HHA : Hid (decide ((gone n s.A).length < s.A.length) = has n s) := gone_has n s.A
  clear h hN
  go_enter Try.func39, Try.ntmps39
  go_wp2_with fail
  go_loopw [5, 6] (fun s5 s6 wr => ∃ vd, vd = s5 ∧ ∃ k : Nat, k ≤ N ∧ s6 = .int .i64 k ∧ wr.ownsRow w.heap.size 50 4 vd (gone n (s.A.take k)).length (flatT (gone n (s.A.take k))) ∧ Below w.heap.size w wr) (fun _ s6 _ => N - (intOf s6).toNat)
  case atStart => exact ⟨_, rfl, 0, Nat.zero_le _, rfl, World.ownsRow_nil _ _ _ _, Below.refl _ _⟩
  case round =>
    obtain ⟨vd, rfl, k, hk, rfl, hrow, hbe⟩ := hrel
    have hR := HR.out.more hbe
    have c2' : wr.cell? ⟨rb, 2, none⟩ = some (.slice ao N cap) := hR.b.cell 2
    by_cases hlt : k < N
    · obtain ⟨g, c, hv, _, _, _⟩ := own_some hR.r (by rw [← HN.out]; omega)
      simp only [Value.slice.injEq] at hv
      obtain ⟨rfl, _, rfl⟩ := hv
      obtain ⟨x, hx⟩ : ∃ x, s.A[k]? = some x := ⟨s.A[k]'(by rw [← HN.out]; exact hlt), List.getElem?_eq_getElem _⟩
      have hrr := hR.r
      rw [← HN.out] at hrr
      obtain ⟨x0, x1, x2, x3⟩ := cellT hrr hx
      have hst := gone_step (n := n) hx
      have hgl : (gone n (s.A.take k)).length ≤ 1000000 := Nat.le_trans (gone_le _ _) (by rw [List.length_take]; omega)
      by_cases hd : x.num = n
      · rw [if_pos hd] at hst
        have HRW : Hid (wr.ownsRow w.heap.size 50 4 vd (gone n (s.A.take (k + 1))).length (flatT (gone n (s.A.take (k + 1))))) := show World.ownsRow _ _ _ _ _ _ _ from by rw [hst]; exact hrow
        have HBE : Hid _ := hbe
        rw [hd] at x1
        clear hrow hbe hR hx hrr hst hd hgl
        go_wp2_with fail
        go_roundw
        case rel => exact ⟨_, rfl, k + 1, by omega, by go_num, HRW.out, HBE.out⟩
        case measure => simp [intOf]; omega
      · rw [if_neg hd] at hst
        have hdb : (x.num == n) = false := by simpa using hd
        obtain ⟨v5, w5, hr5, ho5, hg5, _⟩ := app_tm x hrow hbe.size hgl
        rw [← hst] at ho5
        have HHR : Hid _ := hr5
        have HO5 : Hid _ := ho5
        have HB5 : Hid (Below w.heap.size w w5) := show Below w.heap.size w w5 from hbe.trans (hg5.below (fun q hq => (ownsRow_lt hrow hq).1) hbe.size)
        clear hrow hbe hR hx hrr hst hr5 ho5 hg5 hgl hd
        go_wp2_with (at_builtin; refine wpList_runs rfl _ _ 33 rfl rfl rfl HHR.out ?_)
        go_roundw
        case rel => exact ⟨_, rfl, k + 1, by omega, by go_num, HO5.out, HB5.out⟩
        case measure => simp [intOf]; omega
    · obtain rfl : k = N := by omega
      have htk : s.A.take k = s.A := List.take_of_length_le (by rw [HN.out]; exact Nat.le_refl _)
      rw [htk] at hrow
      have hBs := (hR.b.set 2 vd)
      have hput := HR.out.put (s' := ⟨s.now, s.last, gone n s.A⟩) hbe hrow (w' := wr.setCell ⟨rb, 2, none⟩ vd) hBs (setCell_chg _ _ _ _)
      have fr : wr.frozen? ⟨rb, 2, none⟩ = false := hR.b.frozen 2
      obtain ⟨gl, hgl⟩ : ∃ gl, gl = (gone n s.A).length := ⟨_, rfl⟩
      obtain ⟨aod, capd, hvd, _⟩ := own_slice hrow
      rw [← hgl] at hvd
      subst hvd
      have HPT : Hid _ := hput
      have HDD : Hid (decide (gl < k) = has n s) := show decide (gl < k) = has n s from by rw [hgl, HN.out]; exact HHA.out
      clear hrow hbe hR hBs hput htk hgl
      go_wp2_with fail
      go_ret
      refine ⟨?_, _, HPT.out⟩
      rw [← HDD.out]
      first | rfl | simp
set_option maxRecDepth 100000 in
set_option maxHeartbeats 3200000 in
theorem split_any {base rb : Nat} {s : WV} {v : Value} (d : Int) (w : World) (h : RW base rb s v w) (hl : s.A.length ≤ 1000000) :
    Calls Try.prog 55 #[.pointer (some ⟨rb, 0, none⟩), .int .i64 d] w fun e w' => ∃ v1 v2, e = .returned (.tuple #[v1, v2]) ∧ w'.ownsRow w.heap.size 50 4 v1 (comes d s.A).length (flatT (comes d s.A)) ∧ w'.ownsRow w.heap.size 50 4 v2 (stay d s.A).length (flatT (stay d s.A)) ∧ (∀ k, v1.ownBlock = some k → v2.ownBlock ≠ some k) ∧ Below w.heap.size w w' := by
  have c2 : w.cell? ⟨rb, 2, none⟩ = some v := h.b.cell 2
  obtain ⟨ao, cap, hv, hcp⟩ := own_slice h.r
  obtain ⟨N, hN⟩ : ∃ N, N = s.A.length := ⟨_, rfl⟩
  rw [← hN] at hv hl hcp
  subst hv
  have HN : Hid (N = s.A.length) := hN
  have HR : Hid _ := h
  clear h hN
  go_enter Try.func55, Try.ntmps55
  go_wp2_with fail
  go_loopw [6, 7, 8] (fun s6 s7 s8 wr => ∃ v1 v2, v1 = s6 ∧ v2 = s7 ∧ ∃ k : Nat, k ≤ N ∧ s8 = .int .i64 k ∧ wr.ownsRow w.heap.size 50 4 v1 (comes d (s.A.take k)).length (flatT (comes d (s.A.take k))) ∧ wr.ownsRow w.heap.size 50 4 v2 (stay d (s.A.take k)).length (flatT (stay d (s.A.take k))) ∧ (∀ k, v1.ownBlock = some k → v2.ownBlock ≠ some k) ∧ Below w.heap.size w wr) (fun _ _ s8 _ => N - (intOf s8).toNat)
  case atStart => exact ⟨_, _, rfl, rfl, 0, Nat.zero_le _, rfl, World.ownsRow_nil _ _ _ _, World.ownsRow_nil _ _ _ _, (fun k hk => by cases hk), Below.refl _ _⟩
  case round =>
    obtain ⟨v1, v2, rfl, rfl, k, hk, rfl, hro1, hro2, hdj, hbe⟩ := hrel
    have hR := HR.out.more hbe
    have c2' : wr.cell? ⟨rb, 2, none⟩ = some (.slice ao N cap) := hR.b.cell 2
    by_cases hlt : k < N
    · obtain ⟨g, c, hv, _, _, _⟩ := own_some hR.r (by rw [← HN.out]; omega)
      simp only [Value.slice.injEq] at hv
      obtain ⟨rfl, _, rfl⟩ := hv
      obtain ⟨x, hx⟩ : ∃ x, s.A[k]? = some x := ⟨s.A[k]'(by rw [← HN.out]; exact hlt), List.getElem?_eq_getElem _⟩
      have hrr := hR.r
      rw [← HN.out] at hrr
      obtain ⟨x0, x1, x2, x3⟩ := cellT hrr hx
      have hst := stay_step (now := d) hx
      have hcs := comes_step (now := d) hx
      by_cases hd : x.due = d
      · rw [if_pos hd] at hst hcs
        have hgl : (comes d (s.A.take k)).length ≤ 1000000 := Nat.le_trans (comes_len _ _) (by rw [List.length_take]; omega)
        obtain ⟨v5, w5, hr5, ho5, hg5, _⟩ := app_tm x hro1 hbe.size hgl
        rw [← hcs] at ho5
        have HHR : Hid _ := hr5
        have HO5 : Hid _ := ho5
        have HO6 : Hid (w5.ownsRow w.heap.size 50 4 v2 (stay d (s.A.take (k + 1))).length (flatT (stay d (s.A.take (k + 1))))) := show World.ownsRow _ _ _ _ _ _ _ from by
          rw [hst]
          exact ownsRow_same hro2 (fun g e => hg5.chg.block g (ownsRow_lt hro2 e).2 (fun e2 => hdj g e2 e))
        have HDJ : Hid (∀ k, v5.ownBlock = some k → v2.ownBlock ≠ some k) := fun j hj e => by
          rcases hg5.at' j hj with h1 | h1
          · exact hdj j h1 e
          · have := (ownsRow_lt hro2 e).2; omega
        have HB5 : Hid (Below w.heap.size w w5) := show Below w.heap.size w w5 from hbe.trans (hg5.below (fun q hq => (ownsRow_lt hro1 hq).1) hbe.size)
        have hx0 : wr.cell? ⟨g, k * 4, none⟩ = some (.int .i64 d) := by rw [← hd]; exact x0
        obtain ⟨xd, xn, xk, xi⟩ := x
        simp only at hd x0 x1 x2 x3 HHR
        subst hd
        clear hro1 hro2 hdj hbe hR hx hrr hst hcs hr5 ho5 hg5 hgl hx0
        go_wp2_with (at_builtin; refine wpList_runs rfl _ _ 33 rfl rfl rfl HHR.out ?_)
        go_roundw
        case rel => exact ⟨_, _, rfl, rfl, k + 1, by omega, by go_num, HO5.out, HO6.out, HDJ.out, HB5.out⟩
        case measure => simp [intOf]; omega
      · rw [if_neg hd] at hst hcs
        have hgl : (stay d (s.A.take k)).length ≤ 1000000 := Nat.le_trans (stay_len _ _) (by rw [List.length_take]; omega)
        have hdb : (x.due == d) = false := by simpa using hd
        obtain ⟨v5, w5, hr5, ho5, hg5, _⟩ := app_tm x hro2 hbe.size hgl
        rw [← hst] at ho5
        have HHR : Hid _ := hr5
        have HO5 : Hid _ := ho5
        have HO6 : Hid (w5.ownsRow w.heap.size 50 4 v1 (comes d (s.A.take (k + 1))).length (flatT (comes d (s.A.take (k + 1))))) := show World.ownsRow _ _ _ _ _ _ _ from by
          rw [hcs]
          exact ownsRow_same hro1 (fun g e => hg5.chg.block g (ownsRow_lt hro1 e).2 (fun e2 => hdj g e e2))
        have HDJ : Hid (∀ k, v1.ownBlock = some k → v5.ownBlock ≠ some k) := fun j hj e => by
          rcases hg5.at' j e with h1 | h1
          · exact hdj j hj h1
          · have := (ownsRow_lt hro1 hj).2; omega
        have HB5 : Hid (Below w.heap.size w w5) := show Below w.heap.size w w5 from hbe.trans (hg5.below (fun q hq => (ownsRow_lt hro2 hq).1) hbe.size)
        clear hro1 hro2 hdj hbe hR hx hrr hst hcs hr5 ho5 hg5 hgl hd
        go_wp2_with (at_builtin; refine wpList_runs rfl _ _ 33 rfl rfl rfl HHR.out ?_)
        go_roundw
        case rel => exact ⟨_, _, rfl, rfl, k + 1, by omega, by go_num, HO6.out, HO5.out, HDJ.out, HB5.out⟩
        case measure => simp [intOf]; omega
    · obtain rfl : k = N := by omega
      have htk : s.A.take k = s.A := List.take_of_length_le (by rw [HN.out]; exact Nat.le_refl _)
      rw [htk] at hro1 hro2
      have HX : Hid (wr.ownsRow w.heap.size 50 4 v1 (comes d s.A).length (flatT (comes d s.A)) ∧ wr.ownsRow w.heap.size 50 4 v2 (stay d s.A).length (flatT (stay d s.A)) ∧ (∀ k, v1.ownBlock = some k → v2.ownBlock ≠ some k) ∧ Below w.heap.size w wr) := ⟨hro1, hro2, hdj, hbe⟩
      clear hro1 hro2 hdj hbe hR htk
      go_wp2_with fail
      go_ret2
      exact ⟨_, _, rfl, HX.out⟩
set_option maxRecDepth 100000 in
set_option maxHeartbeats 1600000 in
theorem rtick_any {base rb : Nat} {s : WV} {v : Value} (w : World) (h : RW base rb s v w) (hl : s.A.length ≤ 1000000) (hn : 0 ≤ s.now ∧ s.now ≤ 1000000) :
    Calls Try.prog 40 #[.pointer (some ⟨rb, 0, none⟩)] w fun e w' => ∃ v1, e = .returned v1 ∧ w'.ownsRow w.heap.size 50 4 v1 (comes (s.now + 1) s.A).length (flatT (comes (s.now + 1) s.A)) ∧ ∃ v', RW base rb ⟨s.now + 1, s.last, stay (s.now + 1) s.A⟩ v' w' ∧ RStp rb v v' w w' ∧ ∀ k, v1.ownBlock = some k → ¬ rown rb v' k := by
  have c0 : w.cell? ⟨rb, 0, none⟩ = some (.int .i64 s.now) := h.b.cell 0
  have f0 : w.frozen? ⟨rb, 0, none⟩ = false := h.b.frozen 0
  obtain ⟨hn1, hn2⟩ := hn
  obtain ⟨X, hX⟩ : ∃ X, X = w.setCell ⟨rb, 0, none⟩ (.int .i64 (s.now + 1)) := ⟨_, rfl⟩
  have hcX : Chg (fun k => k = rb) w X := by rw [hX]; exact setCell_chg _ _ _ _
  have hBX : Blk X rb #[.int .i64 (s.now + 1), .int .i64 s.last, v] 74 := by rw [hX]; exact h.b.set 0 _
  have HRX : Hid (RW base rb ⟨s.now + 1, s.last, s.A⟩ v X) := ⟨hBX, ownsRow_same h.r (fun g e => hcX.block g (ownsRow_lt h.r e).2 (h.ne g e)), h.lo⟩
  have HCX : Hid (Chg (fun k => k = rb) w X) := hcX
  have cx : X.cell? ⟨rb, 0, none⟩ = some (.int .i64 (s.now + 1)) := hBX.cell 0
  have HSP : Hid _ := split_any (s.now + 1) X HRX.out hl
  have HEX : Hid (w.setCell ⟨rb, 0, none⟩ (.int .i64 (s.now + 1)) = X) := hX.symm
  clear h hcX hBX hX
  go_enter Try.func40, Try.ntmps40
  go_upto_region 2 with fail
  rw [HEX.out]
  clear c0 f0 HEX
  go_wp2_with fail
  refine Calls.mono HSP.out ?_
  rintro e w2 ⟨v1, v2, rfl, hr1, hr2, hdj, hb2⟩
  obtain ⟨ao2, cap2, hv2, _⟩ := own_slice hr2
  obtain ⟨sl, hsl⟩ : ∃ sl, sl = (stay (s.now + 1) s.A).length := ⟨_, rfl⟩
  replace hv2 : v2 = .slice ao2 (stay (s.now + 1) s.A).length cap2 := hv2
  rw [← hsl] at hv2
  have hR2 := HRX.out.more hb2
  have f2 : w2.frozen? ⟨rb, 2, none⟩ = false := hR2.b.frozen 2
  have c2 : w2.cell? ⟨rb, 2, none⟩ = some v := hR2.b.cell 2
  have hBs : Blk (w2.setCell ⟨rb, 2, none⟩ v2) rb #[.int .i64 (s.now + 1), .int .i64 s.last, v2] 74 := hR2.b.set 2 v2
  have HPT : Hid _ := HRX.out.put (s' := ⟨s.now + 1, s.last, stay (s.now + 1) s.A⟩) hb2 hr2 hBs (setCell_chg _ _ _ _)
  have HR1 : Hid ((w2.setCell ⟨rb, 2, none⟩ v2).ownsRow w.heap.size 50 4 v1 (comes (s.now + 1) s.A).length (flatT (comes (s.now + 1) s.A))) := ownsRow_mono (ownsRow_same hr1 (fun g e => (setCell_chg w2 rb 2 v2).block g (ownsRow_lt hr1 e).2 (fun e2 => by
    have h1 := (ownsRow_lt hr1 e).1
    have h2 := HRX.out.b.lt
    omega))) HCX.out.size
  have HDJ : Hid (∀ k, v1.ownBlock = some k → ¬ rown rb v2 k) := fun k hk hr => by
    rcases hr with e | e
    · have h1 := (ownsRow_lt hr1 hk).1
      have h2 := HRX.out.b.lt
      omega
    · exact hdj k hk e
  have HST : Hid (RStp rb v v2 w (w2.setCell ⟨rb, 2, none⟩ v2)) := ⟨(HCX.out.mono (B := rown rb v) (fun j _ e => Or.inl e)).trans HPT.out.2.1 (fun _ _ e => e), fun k hk => by
    rcases HPT.out.2.2 k hk with h1 | h1
    · exact Or.inl h1
    · exact Or.inr (Nat.le_trans HCX.out.size h1)⟩
  clear hr1 hr2 hdj hb2 hR2 hBs HSP HRX HCX hsl
  subst hv2
  go_wp2_with fail
  go_ret
  exact ⟨_, rfl, HR1.out, _, HPT.out.1, HST.out, HDJ.out⟩
end Go.Proofs.Ytmnihombiabkgaa
