import Derived.Test.YtgjibihhchojoaaOnceT
import Derived.Test.YtgjibihhchojoaaOneH
import Derived.Test.YtgjibihhchojoaaHsL
import Derived.Test.YtgjibihhchojoaaAsd
import Derived.Test.YtgjibihhchojoaaP2
import Derived.Deep.Cut
namespace Go.Proofs.Ytgjibihhchojoaa
open Go.RowKit Go.PlainAid Go.MapKept
set_option linter.unusedVariables false
set_option linter.unusedSimpArgs false
theorem eqC (x y : Int × Int) (w : World) : (Go.Op.equal 37 (.agg #[.int .i64 x.1, .int .i64 x.2]) (.agg #[.int .i64 y.1, .int .i64 y.2])).run Try.prog w = .ok (decide (x = y)) w := eq_call x y w
set_option maxHeartbeats 2000000 in
theorem eqo_in (n : Nat) (a c : OpA) (w : World) : (Go.Op.equalIn (n + 2) 39 (opV a) (opV c)).run Try.prog w = .ok (decide (a = c)) w := by
  obtain ⟨k1, n1, a1, b1⟩ := a
  obtain ⟨k2, n2, a2, b2⟩ := c
  have h0 : Try.prog.stoodInHeld 39 = false := by kernel_rfl
  have e1 : ∀ x y : Int, (Go.Op.equalIn (n + 1) 3 (.int .i64 x) (.int .i64 y)).run Try.prog w = .ok (x == y) w := fun x y => by kernel_rfl
  have e2 : ∀ x y : ByteArray, (Go.Op.equalIn (n + 1) 9 (.string x) (.string y)).run Try.prog w = .ok (x == y) w := fun x y => by kernel_rfl
  have hx : decide ((⟨k1, n1, a1, b1⟩ : OpA) = ⟨k2, n2, a2, b2⟩) = (k1 == k2 && (((⟨n1.toArray⟩ : ByteArray) == ⟨n2.toArray⟩) && (a1 == a2 && b1 == b2))) := by
    rw [bytesB]
    by_cases h1 : k1 = k2 <;> by_cases h2 : n1 = n2 <;> by_cases h3 : a1 = a2 <;> by_cases h4 : b1 = b2 <;> simp [h1, h2, h3, h4]
  rw [hx]
  unfold opV
  unfold Go.Op.equalIn
  have q1 := e1 k1 k2
  have q2 := e2 ⟨n1.toArray⟩ ⟨n2.toArray⟩
  have q3 := e1 a1 a2
  have q4 := e1 b1 b2
  generalize (k1 == k2) = c1 at *
  generalize ((⟨n1.toArray⟩ : ByteArray) == ⟨n2.toArray⟩) = c2 at *
  generalize (a1 == a2) = c3 at *
  generalize (b1 == b2) = c4 at *
  clear e1 e2 hx
  cases c1 <;> cases c2 <;> cases c3 <;> cases c4 <;> simp [go_sem, h0, Result.andThen, q1, q2, q3, q4, run_underlying Try.underlying39]
theorem eqO (a c : OpA) (w : World) : (Go.Op.equal 39 (opV a) (opV c)).run Try.prog w = .ok (decide (a = c)) w := eqo_in 9998 a c w
set_option maxRecDepth 100000 in
set_option maxHeartbeats 12800000 in
theorem once_law (HAL : ∀ w, Calls Try.prog 9 #[] w fun e w' => e = .returned (.bool true) ∧ Below w.heap.size w w')
    (ao : Option Addr) (N cap : Nat) (os : List LO) (w : World) (hl : os.length = N) (hnc : N ≤ cap) (hcm : cap ≤ maxLen) (hok : ∀ o ∈ os, o.ok)
    (hat : 0 < N → ∃ b off, ao = some ⟨b, off, none⟩ ∧ ∀ i o, os[i]? = some o → RowAt w b (off + i * 8) o.row) :
    Calls Try.prog 4 #[.slice ao N cap] w fun e w' => e = .returned (.bool true) ∧ Below w.heap.size w w' := by
  unfold maxLen at hcm
  by_cases hN : 100 < N
  · go_enter Try.func4, Try.ntmps4
    go_wp2_with fail
    go_ret
    exact ⟨rfl, Below.refl _ _⟩
  have HAT : Hid (0 < N → ∃ b off, ao = some ⟨b, off, none⟩ ∧ ∀ i o, os[i]? = some o → RowAt w b (off + i * 8) o.row) := hat
  have HOK : Hid (∀ o ∈ os, o.ok) := hok
  have HL0 : Hid (os.length = N) := hl
  clear hat hok hl
  go_enter Try.func4, Try.ntmps4
  go_wp2_with fail
  refine Calls.mono (HAL w) ?_
  rintro e w1 ⟨rfl, hb1⟩
  have HB1 : Hid _ := hb1
  clear hb1
  go_wp2_with fail
  refine Calls.mono (new_any 0 2 4 w1 (by decide)) ?_
  rintro e w3 ⟨rfl, hT3, hb3, hs3⟩
  obtain ⟨hb, hhb⟩ : ∃ hb, hb = w1.heap.size + 2 := ⟨_, rfl⟩
  obtain ⟨mh, hmh⟩ : ∃ mh, mh = w1.heap.size := ⟨_, rfl⟩
  obtain ⟨mw, hmw⟩ : ∃ mw, mw = w1.heap.size + 1 := ⟨_, rfl⟩
  rw [← hhb, ← hmw, ← hmh] at hT3
  rw [← hhb]
  obtain ⟨base, hbase⟩ : ∃ base, base = w.heap.size := ⟨_, rfl⟩
  have H3 : Hid (OSE hb mh mw base w 0 (.slice none 0 0) w3) := ⟨[], Nat.le_refl _, hT3, World.ownsRow_nil _ _ _ _, by simp, HB1.out.trans (hb3.mono HB1.out.size), by rw [hbase]; exact Nat.le_refl _, by rw [hmw]; exact Nat.le_succ_of_le HB1.out.size, by rw [hbase]; exact Nat.le_trans HB1.out.size hb3.size⟩
  clear hT3 hb3 hs3 hhb hmh hmw HB1 hbase
  go_wp2_with fail
  refine Calls.mono (num17 0 w3) ?_
  rintro e w4 ⟨rfl, hw4⟩
  replace hw4 := hw4.symm
  subst hw4
  go_wp2_with fail
  go_loopw [6, 7] (fun s6 s7 wr => ∃ k : Nat, k ≤ N ∧ s7 = .int .i64 k ∧ OSE hb mh mw base w k s6 wr) (fun _ s7 _ => N - (intOf s7).toNat)
  case atStart => exact ⟨0, by omega, rfl, H3.out⟩
  case round =>
    obtain ⟨k, hk, rfl, WL, hWk, hS⟩ := hrel
    clear H3
    obtain ⟨ao6, cap6, hv6, hc6⟩ := own_slice hS.r
    subst hv6
    have hcap6 : cap6 ≤ maxLen := by obtain ⟨_, _, e, _, h, _⟩ := own_read hS.r; cases e; exact h
    unfold maxLen at hcap6
    obtain ⟨m, hm⟩ : ∃ m, m = WL.length := ⟨_, rfl⟩
    have hm100 : m ≤ 100 := by omega
    have HM : Hid (m = WL.length) := hm
    have HWK : Hid (m ≤ k) := show m ≤ k from by omega
    rw [← hm] at hc6 ⊢
    by_cases hlt : k < N
    · have hkb : k < os.length := by have := HL0.out; omega
      obtain ⟨x, hx⟩ : ∃ x, x = os[k] := ⟨_, rfl⟩
      have hxo : x.ok := HOK.out x (by rw [hx]; exact List.getElem_mem _)
      obtain ⟨b, off, hao, hcell⟩ := HAT.out (by omega)
      subst hao
      have hrow := hcell k x (by rw [hx]; exact List.getElem?_eq_getElem hkb)
      have HCE : Hid (∀ w', Below w.heap.size w w' → RowAt w' b (off + k * 8) x.row) := fun w' h => hrow.below h (hrow.lt (by simp [LO.row]))
      have HXO : Hid x.ok := hxo
      have HS : Hid (OS hb mh mw base (.slice ao6 m cap6) WL w wr) := show OS hb mh mw base (.slice ao6 m cap6) WL w wr from by rw [hm]; exact hS
      obtain ⟨W0, hW0⟩ : ∃ W0, W0 = wr := ⟨wr, rfl⟩
      subst hW0
      clear hS hrow hcell hkb hx HAT hxo hm hWk
      go_wp2_with fail
      go_loopw [8, 9] (fun s8 s9 wr => ∃ (j q : Nat), j ≤ m ∧ s9 = .int .i64 j ∧ s8 = .int .i64 (lastAt x.c WL j) ∧ wr = W0.drewN q) (fun _ s9 _ => m - (intOf s9).toNat)
      case atStart => exact ⟨0, 0, by omega, rfl, rfl, rfl⟩
      case round =>
        obtain ⟨j, q, hj, rfl, rfl, hwr⟩ := hrel
        have hbd := lastAt_bd x.c WL j
        have HSr : Hid (OS hb mh mw base (.slice ao6 m cap6) WL w wr) := show OS hb mh mw base (.slice ao6 m cap6) WL w wr from by rw [hwr]; exact HS.out.more (below_drewN (Below.refl _ _) q)
        have HWR : Hid (wr = W0.drewN q) := hwr
        clear hwr
        by_cases hjm : j < m
        · have hjl : j < WL.length := by have := HM.out; omega
          obtain ⟨y, hy⟩ : ∃ y, y = WL[j] := ⟨_, rfl⟩
          have hyj : WL[j]? = some y := by rw [hy]; exact List.getElem?_eq_getElem hjl
          obtain ⟨g, hg⟩ : ∃ g, ao6 = some ⟨g, 0, none⟩ := by
            obtain ⟨_, _, e, _, _, h⟩ := own_read HSr.out.r
            cases e
            obtain ⟨g, e, _⟩ := h (by omega)
            exact ⟨g, e⟩
          subst hg
          have HSg : OS hb mh mw base (.slice (some ⟨g, 0, none⟩) WL.length cap6) WL w wr := by rw [← HM.out]; exact HSr.out
          have y2 : wr.cell? ⟨g, j * 8 + 2, none⟩ = some (.int .i64 y.c.1) := HSg.cell hyj rfl
          have y3 : wr.cell? ⟨g, j * 8 + 3, none⟩ = some (.int .i64 y.c.2) := HSg.cell hyj rfl
          have hR := HCE.out wr HSr.out.b
          have x2 : wr.cell? ⟨b, off + k * 8 + 2, none⟩ = some (.int .i64 x.c.1) := hR 2 _ rfl
          have x3 : wr.cell? ⟨b, off + k * 8 + 3, none⟩ = some (.int .i64 x.c.2) := hR 3 _ rfl
          have hst : lastAt x.c WL (j + 1) = if y.c = x.c then (j : Int) else lastAt x.c WL j := by
            show (if _ then _ else _) = _
            rw [hyj]
            simp
          have HST : Hid (lastAt x.c WL (j + 1) = if y.c = x.c then (j : Int) else lastAt x.c WL j) := hst
          clear hst hR HSg hjl hy hyj
          go_wp2_with fail
          rename_i K hK
          try rw [show ∀ a : Act, a.put none undef = a from fun _ => rfl]
          refine wp_region_mix (fun wz => wz.cell? ⟨g, j * 8 + 2, none⟩ = some (.int .i64 y.c.1) ∧ wz.cell? ⟨g, j * 8 + 3, none⟩ = some (.int .i64 y.c.2) ∧ wz.cell? ⟨b, off + k * 8 + 2, none⟩ = some (.int .i64 x.c.1) ∧ wz.cell? ⟨b, off + k * 8 + 3, none⟩ = some (.int .i64 x.c.2)) (fun i => i == 99) 99 (by kernel_rfl) rfl (by kernel_rfl) (by kernel_rfl) (by kernel_rfl) ?_
          refine withFrP (N := 203) rfl ?_
          intro f0 F0 hff
          have e0 : f0 0 = Value.slice (some ⟨b, off, none⟩) N cap := hff 0
          have e6 : f0 6 = Value.slice (some ⟨g, 0, none⟩) m cap6 := hff 6
          have e7 : f0 7 = Value.int .i64 ((k : Nat) : Int) := hff 7
          have e9 : f0 9 = Value.int .i64 ((j : Nat) : Int) := hff 9
          clear hff
          have HCC : (fun wz => wz.cell? ⟨g, j * 8 + 2, none⟩ = some (.int .i64 y.c.1) ∧ wz.cell? ⟨g, j * 8 + 3, none⟩ = some (.int .i64 y.c.2) ∧ wz.cell? ⟨b, off + k * 8 + 2, none⟩ = some (.int .i64 x.c.1) ∧ wz.cell? ⟨b, off + k * 8 + 3, none⟩ = some (.int .i64 x.c.2)) (({ wr with drawn := wr.drawn + 1 } : World)) := ⟨y2, y3, x2, x3⟩
          refine lyp F0 rfl HCC rfl (by omega) (wanted_none rfl) (v := Value.slice (some ⟨g, 0, none⟩) m cap6) (fun wr hwr => by simp only [execOp, (F0.eval 6 (by omega)).trans (show _ = Value.slice (some ⟨g, 0, none⟩) m cap6 from by simp [upd, e0, e6, e7, e9])]; first | rfl | simp [go_sem]) fun F1 => ?_
          refine lyp F1 rfl HCC rfl (by omega) (wanted_none rfl) (v := Value.int .i64 ((j : Nat) : Int)) (fun wr hwr => by simp only [execOp, (F1.eval 9 (by omega)).trans (show _ = Value.int .i64 ((j : Nat) : Int) from by simp [upd, e0, e6, e7, e9])]; first | rfl | simp [go_sem]) fun F2 => ?_
          refine lyp F2 rfl HCC rfl (by omega) (wanted_none rfl) (v := Value.pointer (some ⟨g, j * 8, none⟩)) (fun wr hwr => by simp only [execOp, (F2.eval 46 (by omega)).trans (show _ = Value.slice (some ⟨g, 0, none⟩) m cap6 from by simp [upd, e0, e6, e7, e9]), (F2.eval 47 (by omega)).trans (show _ = Value.int .i64 ((j : Nat) : Int) from by simp [upd, e0, e6, e7, e9])]; simp only [Sem.run_bind, Sem.run_pure, Result.andThen_ok, idx_run 30 41 8 Try.underlying30 isz41 wr g 0 m cap6 j hjm, Nat.zero_add, Nat.mul_one]; try rfl) fun F3 => ?_
          refine lyp F3 rfl HCC rfl (by omega) (wanted_none rfl) (v := Value.pointer (some ⟨g, j * 8 + 2, none⟩)) (fun wr hwr => by simp only [execOp, (F3.eval 48 (by omega)).trans (show _ = Value.pointer (some ⟨g, j * 8, none⟩) from by simp [upd, e0, e6, e7, e9])]; simp [go_sem]) fun F4 => ?_
          refine lyp F4 rfl HCC rfl (by omega) (wanted_none rfl) (v := Value.agg #[.int .i64 y.c.1, .int .i64 y.c.2]) (fun wr hwr => by simp only [execOp, (F4.eval 49 (by omega)).trans (show _ = Value.pointer (some ⟨g, j * 8 + 2, none⟩) from by simp [upd, e0, e6, e7, e9])]; simp [go_sem, hwr.1, hwr.2.1]) fun F5 => ?_
          refine lyp F5 rfl HCC rfl (by omega) (wanted_none rfl) (v := Value.slice (some ⟨b, off, none⟩) N cap) (fun wr hwr => by simp only [execOp, (F5.eval 0 (by omega)).trans (show _ = Value.slice (some ⟨b, off, none⟩) N cap from by simp [upd, e0, e6, e7, e9])]; first | rfl | simp [go_sem]) fun F6 => ?_
          refine lyp F6 rfl HCC rfl (by omega) (wanted_none rfl) (v := Value.int .i64 ((k : Nat) : Int)) (fun wr hwr => by simp only [execOp, (F6.eval 7 (by omega)).trans (show _ = Value.int .i64 ((k : Nat) : Int) from by simp [upd, e0, e6, e7, e9])]; first | rfl | simp [go_sem]) fun F7 => ?_
          refine lyp F7 rfl HCC rfl (by omega) (wanted_none rfl) (v := Value.pointer (some ⟨b, off + k * 8, none⟩)) (fun wr hwr => by simp only [execOp, (F7.eval 51 (by omega)).trans (show _ = Value.slice (some ⟨b, off, none⟩) N cap from by simp [upd, e0, e6, e7, e9]), (F7.eval 52 (by omega)).trans (show _ = Value.int .i64 ((k : Nat) : Int) from by simp [upd, e0, e6, e7, e9])]; simp only [Sem.run_bind, Sem.run_pure, Result.andThen_ok, idx_run 30 41 8 Try.underlying30 isz41 wr b off N cap k hlt, Nat.zero_add, Nat.mul_one]; try rfl) fun F8 => ?_
          refine lyp F8 rfl HCC rfl (by omega) (wanted_none rfl) (v := Value.pointer (some ⟨b, off + k * 8 + 2, none⟩)) (fun wr hwr => by simp only [execOp, (F8.eval 53 (by omega)).trans (show _ = Value.pointer (some ⟨b, off + k * 8, none⟩) from by simp [upd, e0, e6, e7, e9])]; simp [go_sem]) fun F9 => ?_
          refine lyp F9 rfl HCC rfl (by omega) (wanted_none rfl) (v := Value.agg #[.int .i64 x.c.1, .int .i64 x.c.2]) (fun wr hwr => by simp only [execOp, (F9.eval 54 (by omega)).trans (show _ = Value.pointer (some ⟨b, off + k * 8 + 2, none⟩) from by simp [upd, e0, e6, e7, e9])]; simp [go_sem, hwr.2.2.1, hwr.2.2.2]) fun F10 => ?_
          refine lyp F10 rfl HCC rfl (by omega) (wanted_none rfl) (v := Value.bool (decide (y.c = x.c))) (fun wr hwr => by simp only [execOp, (F10.eval 50 (by omega)).trans (show _ = Value.agg #[.int .i64 y.c.1, .int .i64 y.c.2] from by simp [upd, e0, e6, e7, e9]), (F10.eval 55 (by omega)).trans (show _ = Value.agg #[.int .i64 x.c.1, .int .i64 x.c.2] from by simp [upd, e0, e6, e7, e9])]; simp [go_sem, Prod.ext_iff]; by_cases h1 : y.c.1 = x.c.1 <;> by_cases h2 : y.c.2 = x.c.2 <;> simp [h1, h2]) fun F11 => ?_
          refine ⟨fun _ => HCC, ?_⟩
          refine hK _ _ ?_
          clear F0 F1 F2 F3 F4 F5 F6 F7 F8 F9 F10 F11 e0 e6 e7 e9 HCC y2 y3 x2 x3
          simp only [Act.put, List.setIfInBounds_toArray, List.set_cons_succ, List.set_cons_zero]
          by_cases hyx : y.c = x.c
          · rw [show decide (y.c = x.c) = true from decide_eq_true hyx]
            have HN : Hid (lastAt x.c WL (j + 1) = (j : Int)) := show _ = _ from by rw [HST.out, if_pos hyx]
            clear hyx HST
            go_wp2_with fail
            go_roundw
            case rel => exact ⟨j + 1, q + 1, by omega, by go_num, by rw [HN.out], by rw [HWR.out]; rfl⟩
            case measure => simp [intOf]; omega
          · rw [show decide (y.c = x.c) = false from decide_eq_false hyx]
            have HN : Hid (lastAt x.c WL (j + 1) = lastAt x.c WL j) := show _ = _ from by rw [HST.out, if_neg hyx]
            clear hyx HST
            go_wp2_with fail
            go_roundw
            case rel => exact ⟨j + 1, q + 1, by omega, by go_num, by rw [HN.out], by rw [HWR.out]; rfl⟩
            case measure => simp [intOf]; omega
        · obtain rfl : j = m := by omega
          have HRX : Hid (RowAt wr b (off + k * 8) x.row) := HCE.out wr HSr.out.b
          obtain ⟨A, hA⟩ : ∃ A, A = lastAt x.c WL j := ⟨_, rfl⟩
          have HA : Hid (A = lastAt x.c WL j) := hA
          rw [← hA] at hbd ⊢
          clear hA hjm hj
          have x0 : wr.cell? ⟨b, off + k * 8, none⟩ = some (.int .i64 x.k) := HRX.out 0 _ rfl
          have x2 : wr.cell? ⟨b, off + k * 8 + 2, none⟩ = some (.int .i64 x.c.1) := HRX.out 2 _ rfl
          have x3 : wr.cell? ⟨b, off + k * 8 + 3, none⟩ = some (.int .i64 x.c.2) := HRX.out 3 _ rfl
          by_cases hk4 : x.k = 4
          · have hk4b : (x.k == 4) = true := by simpa using hk4
            clear hk4
            by_cases hA0 : 0 ≤ A
            · obtain ⟨i, z, hAi, hzi, hzc⟩ := lastAt_yes (show 0 ≤ lastAt x.c WL j from by rw [← HA.out]; exact hA0)
              rw [← HA.out] at hAi
              subst hAi
              obtain ⟨hlk, hrm⟩ := wt_some HSr.out.nd hzi hzc
              have hil : i < j := by have := (List.getElem?_eq_some_iff.1 hzi).1; have := HM.out; omega
              have HTD : Hid (Calls Try.prog 18 #[.pointer (some ⟨hb, 0, none⟩), .agg #[.int .i64 x.c.1, .int .i64 x.c.2]] wr fun q w' => q = .returned (.tuple #[.agg #[.int .i64 z.o.k, .string ⟨z.o.n.toArray⟩, .int .i64 z.o.a, .int .i64 z.o.b], .bool true]) ∧ Tb hb mh mw 0 2 4 [] (wtOf (WL.eraseIdx i)) w' ∧ Chg (fun k => k = mw) wr w') := by
                have := told_any x.c wr HSr.out.t
                rw [hlk, hrm] at this
                exact this
              have HZI : Hid (WL[i]? = some z) := hzi
              obtain ⟨g, hg⟩ : ∃ g, ao6 = some ⟨g, 0, none⟩ := by
                obtain ⟨_, _, e, _, _, h⟩ := own_read HSr.out.r
                cases e
                obtain ⟨g, e, _⟩ := h (by have := HM.out; omega)
                exact ⟨g, e⟩
              subst hg
              clear hlk hrm hzi hzc hA0 HA
              go_wp2_with fail
              refine Calls.mono HTD.out ?_
              rintro e w4 ⟨rfl, hT4, hC4⟩
              obtain ⟨hrow4, hbel4⟩ := HSr.out.setW hT4 hC4
              obtain ⟨X, hX⟩ : ∃ X, X = w4.alloc (.cells #[.int .i64 z.o.k, .string ⟨z.o.n.toArray⟩, .int .i64 z.o.a, .int .i64 z.o.b] 39) := ⟨_, rfl⟩
              obtain ⟨bx, hbx⟩ : ∃ bx, bx = w4.heap.size := ⟨_, rfl⟩
              have hbX : Below w4.heap.size w4 X := by rw [hX]; exact (Below.refl _ _).alloc (Nat.le_refl _) _
              have HBx : Hid (Blk X bx #[.int .i64 z.o.k, .string ⟨z.o.n.toArray⟩, .int .i64 z.o.a, .int .i64 z.o.b] 39) := show Blk X bx _ 39 from by rw [hX, hbx]; exact heap_alloc_new w4 _
              have HTX : Hid (Tb hb mh mw 0 2 4 [] (wtOf (WL.eraseIdx i)) X) := hT4.more hbX
              have hrX : World.ownsRow X base 41 8 (.slice (some ⟨g, 0, none⟩) WL.length cap6) WL.length (flatL WL) := by
                have := ownsRow_same hrow4 (fun g e => hbX.block g (ownsRow_lt hrow4 e).2)
                rwa [← HM.out] at this ⊢
              have HRX2 : Hid (World.ownsRow X base 41 8 (.slice (some ⟨g, 0, none⟩) WL.length cap6) WL.length (flatL WL)) := hrX
              have HBX : Hid (Below w.heap.size w X) := hbel4.trans (hbX.mono hbel4.size)
              have HLW : Hid (w.heap.size ≤ base ∧ w.heap.size ≤ mw ∧ base ≤ w4.heap.size ∧ (WL.map (·.c)).Nodup) := ⟨HSr.out.lo, HSr.out.lw, Nat.le_trans HSr.out.bs hC4.size, HSr.out.nd⟩
              have HX4 : Hid (Below w4.heap.size w4 X) := hbX
              clear hT4 hC4 hrow4 hbel4 hbX hrX HTD x0 x2 x3 HRX hk4b HSr HS
              go_upto_region 19 with fail
              rw [← hX, ← hbx]
              have HCX : Hid (base ≤ X.heap.size) := show base ≤ X.heap.size from Nat.le_trans HLW.out.2.2.1 HX4.out.size
              clear hX hbx HX4
              go_wp2_with fail
              rename_i K hK
              try rw [show ∀ a : Act, a.put none undef = a from fun _ => rfl]
              refine wp_region_mix (fun wz => Below X.heap.size X wz) (fun i => i == 99) 99 (by kernel_rfl) rfl (by kernel_rfl) (by kernel_rfl) (by kernel_rfl) ?_
              refine withFrP (N := 203) rfl ?_
              intro f0 F0 hff
              have e0 : f0 0 = Value.slice (some ⟨b, off, none⟩) N cap := hff 0
              have e6 : f0 6 = Value.slice (some ⟨g, 0, none⟩) j cap6 := hff 6
              have e8 : f0 8 = Value.int .i64 ((i : Nat) : Int) := hff 8
              have e10 : f0 10 = Value.pointer (some ⟨bx, 0, none⟩) := hff 10
              have e11 : f0 11 = Value.bool true := hff 11
              clear hff
              have HCC : (fun wz => Below X.heap.size X wz) (({ X with drawn := X.drawn + 1 } : World)) := Below.drew (Below.refl _ _)
              have BX0 : ∀ wz, Below X.heap.size X wz → wz.cell? ⟨bx, 0, none⟩ = some (.int .i64 z.o.k) := fun wz h => (Blk.below HBx.out h (Blk.lt HBx.out)).cell 0
              have BX1 : ∀ wz, Below X.heap.size X wz → wz.cell? ⟨bx, 1, none⟩ = some (.string ⟨z.o.n.toArray⟩) := fun wz h => (Blk.below HBx.out h (Blk.lt HBx.out)).cell 1
              have BX2 : ∀ wz, Below X.heap.size X wz → wz.cell? ⟨bx, 2, none⟩ = some (.int .i64 z.o.a) := fun wz h => (Blk.below HBx.out h (Blk.lt HBx.out)).cell 2
              have BX3 : ∀ wz, Below X.heap.size X wz → wz.cell? ⟨bx, 3, none⟩ = some (.int .i64 z.o.b) := fun wz h => (Blk.below HBx.out h (Blk.lt HBx.out)).cell 3
              have ZO0 : ∀ wz, Below X.heap.size X wz → wz.cell? ⟨g, i * 8 + 4 + 0, none⟩ = some (.int .i64 z.o.k) := fun wz h => by
                have h1 := HRX2.out.cells (g := g) rfl (i * 8 + 4) (.int .i64 z.o.k) (by unfold flatL; rw [flat_at LO.row 8 row8 WL i 4 z HZI.out (by omega)]; rfl)
                rw [addr_add, Nat.zero_add] at h1
                exact (h.cell (p := ⟨g, i * 8 + 4, none⟩) (World.block_lt_of_cell? X _ h1)).trans h1
              have ZO1 : ∀ wz, Below X.heap.size X wz → wz.cell? ⟨g, i * 8 + 4 + 1, none⟩ = some (.string ⟨z.o.n.toArray⟩) := fun wz h => by
                have h1 := HRX2.out.cells (g := g) rfl (i * 8 + 5) (.string ⟨z.o.n.toArray⟩) (by unfold flatL; rw [flat_at LO.row 8 row8 WL i 5 z HZI.out (by omega)]; rfl)
                rw [addr_add, Nat.zero_add] at h1
                exact (h.cell (p := ⟨g, i * 8 + 5, none⟩) (World.block_lt_of_cell? X _ h1)).trans h1
              have ZO2 : ∀ wz, Below X.heap.size X wz → wz.cell? ⟨g, i * 8 + 4 + 2, none⟩ = some (.int .i64 z.o.a) := fun wz h => by
                have h1 := HRX2.out.cells (g := g) rfl (i * 8 + 6) (.int .i64 z.o.a) (by unfold flatL; rw [flat_at LO.row 8 row8 WL i 6 z HZI.out (by omega)]; rfl)
                rw [addr_add, Nat.zero_add] at h1
                exact (h.cell (p := ⟨g, i * 8 + 6, none⟩) (World.block_lt_of_cell? X _ h1)).trans h1
              have ZO3 : ∀ wz, Below X.heap.size X wz → wz.cell? ⟨g, i * 8 + 4 + 3, none⟩ = some (.int .i64 z.o.b) := fun wz h => by
                have h1 := HRX2.out.cells (g := g) rfl (i * 8 + 7) (.int .i64 z.o.b) (by unfold flatL; rw [flat_at LO.row 8 row8 WL i 7 z HZI.out (by omega)]; rfl)
                rw [addr_add, Nat.zero_add] at h1
                exact (h.cell (p := ⟨g, i * 8 + 7, none⟩) (World.block_lt_of_cell? X _ h1)).trans h1
              refine lyp F0 rfl HCC rfl (by omega) (wanted_none rfl) (v := Value.bool true) (fun wr hwr => by simp only [execOp, (F0.eval 11 (by omega)).trans (show _ = Value.bool true from by simp [upd, e0, e6, e8, e10, e11])]; first | rfl | simp [go_sem]) fun F1 => ?_
              refine lyp F1 rfl HCC rfl (by omega) (wanted_none rfl) (v := Value.int .i64 ((i : Nat) : Int)) (fun wr hwr => by simp only [execOp, (F1.eval 8 (by omega)).trans (show _ = Value.int .i64 ((i : Nat) : Int) from by simp [upd, e0, e6, e8, e10, e11])]; first | rfl | simp [go_sem]) fun F2 => ?_
              refine lyp F2 rfl HCC rfl (by omega) (wanted_none rfl) (v := Value.bool true) (fun wr hwr => by simp only [execOp, (F2.eval 75 (by omega)).trans (show _ = Value.int .i64 ((i : Nat) : Int) from by simp [upd, e0, e6, e8, e10, e11])]; simp [go_sem, Act.eval]; try omega) fun F3 => ?_
              refine lyp F3 rfl HCC rfl (by omega) (wanted_none rfl) (v := Value.bool false) (fun wr hwr => by simp only [execOp, (F3.eval 74 (by omega)).trans (show _ = Value.bool true from by simp [upd, e0, e6, e8, e10, e11]), (F3.eval 76 (by omega)).trans (show _ = Value.bool true from by simp [upd, e0, e6, e8, e10, e11])]; simp [go_sem, Act.eval]) fun F4 => ?_
              refine lyp F4 rfl HCC rfl (by omega) (wanted_none rfl) (v := Value.bool false) (fun wr hwr => by simp only [execOp, (F4.eval 77 (by omega)).trans (show _ = Value.bool false from by simp [upd, e0, e6, e8, e10, e11])]; first | rfl | simp [go_sem]) fun F5 => ?_
              refine lyp F5 rfl HCC rfl (by omega) (want_yes F5 rfl (e := 78) rfl (by omega) (show _ = Value.bool false from by simp [upd, e0, e6, e8, e10, e11])) (v := Value.bool true) (fun wr hwr => by simp only [execOp, (F5.eval 11 (by omega)).trans (show _ = Value.bool true from by simp [upd, e0, e6, e8, e10, e11])]; first | rfl | simp [go_sem]) fun F6 => ?_
              refine lyp F6 rfl HCC rfl (by omega) (want_yes F6 rfl (e := 78) rfl (by omega) (show _ = Value.bool false from by simp [upd, e0, e6, e8, e10, e11])) (v := Value.bool true) (fun wr hwr => by simp only [execOp, (F6.eval 79 (by omega)).trans (show _ = Value.bool true from by simp [upd, e0, e6, e8, e10, e11])]; first | rfl | simp [go_sem]) fun F7 => ?_
              refine lyp F7 rfl HCC rfl (by omega) (want_yes F7 rfl (e := 80) rfl (by omega) (show _ = Value.bool true from by simp [upd, e0, e6, e8, e10, e11])) (v := Value.agg #[.int .i64 z.o.k, .string ⟨z.o.n.toArray⟩, .int .i64 z.o.a, .int .i64 z.o.b]) (fun wr hwr => by simp only [execOp, (F7.eval 10 (by omega)).trans (show _ = Value.pointer (some ⟨bx, 0, none⟩) from by simp [upd, e0, e6, e8, e10, e11])]; simp [go_sem, BX0 wr hwr, BX1 wr hwr, BX2 wr hwr, BX3 wr hwr]) fun F8 => ?_
              refine lyp F8 rfl HCC rfl (by omega) (want_yes F8 rfl (e := 80) rfl (by omega) (show _ = Value.bool true from by simp [upd, e0, e6, e8, e10, e11])) (v := Value.slice (some ⟨g, 0, none⟩) j cap6) (fun wr hwr => by simp only [execOp, (F8.eval 6 (by omega)).trans (show _ = Value.slice (some ⟨g, 0, none⟩) j cap6 from by simp [upd, e0, e6, e8, e10, e11])]; first | rfl | simp [go_sem]) fun F9 => ?_
              refine lyp F9 rfl HCC rfl (by omega) (want_yes F9 rfl (e := 80) rfl (by omega) (show _ = Value.bool true from by simp [upd, e0, e6, e8, e10, e11])) (v := Value.int .i64 ((i : Nat) : Int)) (fun wr hwr => by simp only [execOp, (F9.eval 8 (by omega)).trans (show _ = Value.int .i64 ((i : Nat) : Int) from by simp [upd, e0, e6, e8, e10, e11])]; first | rfl | simp [go_sem]) fun F10 => ?_
              refine lyp F10 rfl HCC rfl (by omega) (want_yes F10 rfl (e := 80) rfl (by omega) (show _ = Value.bool true from by simp [upd, e0, e6, e8, e10, e11])) (v := Value.pointer (some ⟨g, i * 8, none⟩)) (fun wr hwr => by simp only [execOp, (F10.eval 82 (by omega)).trans (show _ = Value.slice (some ⟨g, 0, none⟩) j cap6 from by simp [upd, e0, e6, e8, e10, e11]), (F10.eval 83 (by omega)).trans (show _ = Value.int .i64 ((i : Nat) : Int) from by simp [upd, e0, e6, e8, e10, e11])]; simp only [Sem.run_bind, Sem.run_pure, Result.andThen_ok, idx_run 30 41 8 Try.underlying30 isz41 wr g 0 j cap6 i hil, Nat.zero_add, Nat.mul_one]; try rfl) fun F11 => ?_
              refine lyp F11 rfl HCC rfl (by omega) (want_yes F11 rfl (e := 80) rfl (by omega) (show _ = Value.bool true from by simp [upd, e0, e6, e8, e10, e11])) (v := Value.pointer (some ⟨g, i * 8 + 4, none⟩)) (fun wr hwr => by simp only [execOp, (F11.eval 84 (by omega)).trans (show _ = Value.pointer (some ⟨g, i * 8, none⟩) from by simp [upd, e0, e6, e8, e10, e11])]; simp [go_sem]) fun F12 => ?_
              refine lyp F12 rfl HCC rfl (by omega) (want_yes F12 rfl (e := 80) rfl (by omega) (show _ = Value.bool true from by simp [upd, e0, e6, e8, e10, e11])) (v := Value.agg #[.int .i64 z.o.k, .string ⟨z.o.n.toArray⟩, .int .i64 z.o.a, .int .i64 z.o.b]) (fun wr hwr => by simp only [execOp, (F12.eval 85 (by omega)).trans (show _ = Value.pointer (some ⟨g, i * 8 + 4, none⟩) from by simp [upd, e0, e6, e8, e10, e11])]; simp [go_sem, ZO0 wr hwr, ZO1 wr hwr, ZO2 wr hwr, ZO3 wr hwr, Nat.add_zero, show wr.cell? ⟨g, i * 8 + 4, none⟩ = some (.int .i64 z.o.k) from ZO0 wr hwr]) fun F13 => ?_
              refine lyp F13 rfl HCC rfl (by omega) (want_yes F13 rfl (e := 80) rfl (by omega) (show _ = Value.bool true from by simp [upd, e0, e6, e8, e10, e11])) (v := Value.bool false) (fun wr hwr => by simp only [execOp, (F13.eval 81 (by omega)).trans (show _ = Value.agg #[.int .i64 z.o.k, .string ⟨z.o.n.toArray⟩, .int .i64 z.o.a, .int .i64 z.o.b] from by simp [upd, e0, e6, e8, e10, e11]), (F13.eval 86 (by omega)).trans (show _ = Value.agg #[.int .i64 z.o.k, .string ⟨z.o.n.toArray⟩, .int .i64 z.o.a, .int .i64 z.o.b] from by simp [upd, e0, e6, e8, e10, e11])]; simp [go_sem, Act.eval]) fun F14 => ?_
              refine lyp F14 rfl HCC rfl (by omega) (want_yes F14 rfl (e := 78) rfl (by omega) (show _ = Value.bool false from by simp [upd, e0, e6, e8, e10, e11])) (v := Value.bool false) (fun wr hwr => by simp only [execOp, (F14.eval 80 (by omega)).trans (show _ = Value.bool true from by simp [upd, e0, e6, e8, e10, e11]), (F14.eval 87 (by omega)).trans (show _ = Value.bool false from by simp [upd, e0, e6, e8, e10, e11])]; simp [go_sem, Act.eval]) fun F15 => ?_
              refine lyp F15 rfl HCC rfl (by omega) (wanted_none rfl) (v := Value.bool false) (fun wr hwr => by simp only [execOp, (F15.eval 78 (by omega)).trans (show _ = Value.bool false from by simp [upd, e0, e6, e8, e10, e11]), (F15.eval 88 (by omega)).trans (show _ = Value.bool false from by simp [upd, e0, e6, e8, e10, e11])]; simp [go_sem, Act.eval]) fun F16 => ?_
              refine lyp F16 rfl HCC rfl (by omega) (wanted_none rfl) (v := Value.bool false) (fun wr hwr => by simp only [execOp, (F16.eval 89 (by omega)).trans (show _ = Value.bool false from by simp [upd, e0, e6, e8, e10, e11])]; first | rfl | simp [go_sem]) fun F17 => ?_
              refine lyp F17 rfl HCC rfl (by omega) (want_yes F17 rfl (e := 90) rfl (by omega) (show _ = Value.bool false from by simp [upd, e0, e6, e8, e10, e11])) (v := Value.bool true) (fun wr hwr => by simp only [execOp, (F17.eval 11 (by omega)).trans (show _ = Value.bool true from by simp [upd, e0, e6, e8, e10, e11])]; first | rfl | simp [go_sem]) fun F18 => ?_
              refine lyp F18 rfl HCC rfl (by omega) (want_yes F18 rfl (e := 90) rfl (by omega) (show _ = Value.bool false from by simp [upd, e0, e6, e8, e10, e11])) (v := Value.bool false) (fun wr hwr => by simp only [execOp, (F18.eval 91 (by omega)).trans (show _ = Value.bool true from by simp [upd, e0, e6, e8, e10, e11])]; simp [go_sem, Act.eval]) fun F19 => ?_
              refine lyp F19 rfl HCC rfl (by omega) (want_yes F19 rfl (e := 90) rfl (by omega) (show _ = Value.bool false from by simp [upd, e0, e6, e8, e10, e11])) (v := Value.bool false) (fun wr hwr => by simp only [execOp, (F19.eval 92 (by omega)).trans (show _ = Value.bool false from by simp [upd, e0, e6, e8, e10, e11])]; first | rfl | simp [go_sem]) fun F20 => ?_
              refine lnp F20 rfl HCC rfl (by omega) (want_no F20 rfl (e := 93) rfl (by omega) (show _ = Value.bool false from by simp [upd, e0, e6, e8, e10, e11]) (by decide)) fun F21 => ?_
              refine lnp F21 rfl HCC rfl (by omega) (want_no F21 rfl (e := 93) rfl (by omega) (show _ = Value.bool false from by simp [upd, e0, e6, e8, e10, e11]) (by decide)) fun F22 => ?_
              refine lnp F22 rfl HCC rfl (by omega) (want_no F22 rfl (e := 93) rfl (by omega) (show _ = Value.bool false from by simp [upd, e0, e6, e8, e10, e11]) (by decide)) fun F23 => ?_
              refine lyp F23 rfl HCC rfl (by omega) (want_yes F23 rfl (e := 90) rfl (by omega) (show _ = Value.bool false from by simp [upd, e0, e6, e8, e10, e11])) (v := Value.bool false) (fun wr hwr => by simp only [execOp, (F23.eval 93 (by omega)).trans (show _ = Value.bool false from by simp [upd, e0, e6, e8, e10, e11])]; simp [go_sem, Act.eval]) fun F24 => ?_
              refine lyp F24 rfl HCC rfl (by omega) (wanted_none rfl) (v := Value.bool false) (fun wr hwr => by simp only [execOp, (F24.eval 90 (by omega)).trans (show _ = Value.bool false from by simp [upd, e0, e6, e8, e10, e11]), (F24.eval 97 (by omega)).trans (show _ = Value.bool false from by simp [upd, e0, e6, e8, e10, e11])]; simp [go_sem, Act.eval]) fun F25 => ?_
              refine ⟨fun _ => HCC, ?_⟩
              refine hK _ _ ?_
              clear F0 F1 F2 F3 F4 F5 F6 F7 F8 F9 F10 F11 F12 F13 F14 F15 F16 F17 F18 F19 F20 F21 F22 F23 F24 F25 e0 e6 e8 e10 e11 HCC BX0 BX1 BX2 BX3 ZO0 ZO1 ZO2 ZO3
              simp only [Act.put, List.setIfInBounds_toArray, List.set_cons_succ, List.set_cons_zero]
              have HB2 : Hid (Below X.heap.size X ({ X with drawn := X.drawn + 1 } : World)) := Below.drew (Below.refl _ _)
              have HT2 : Hid (Tb hb mh mw 0 2 4 [] (wtOf (WL.eraseIdx i)) ({ X with drawn := X.drawn + 1 } : World)) := HTX.out.more HB2.out
              have HR2 : Hid (World.ownsRow ({ X with drawn := X.drawn + 1 } : World) base 41 8 (.slice (some ⟨g, 0, none⟩) WL.length cap6) WL.length (flatL WL)) := HRX2.out
              have HBB2 : Hid (Below w.heap.size w ({ X with drawn := X.drawn + 1 } : World)) := HBX.out.trans (HB2.out.mono HBX.out.size)
              have HCX2 : Hid (base ≤ ({ X with drawn := X.drawn + 1 } : World).heap.size) := HCX.out
              clear HTX HRX2 HBX HCX HB2 HBx
              generalize ({ X with drawn := X.drawn + 1 } : World) = X2 at HT2 HR2 HBB2 HCX2 ⊢
              go_wp2_with fail
              rename_i K hK
              try rw [show ∀ a : Act, a.put none undef = a from fun _ => rfl]
              refine wp_region_mix (fun wz => Below X2.heap.size X2 wz) (fun i => i == 3 || i == 8 || i == 99) 99 (by kernel_rfl) rfl (by kernel_rfl) (by kernel_rfl) (by kernel_rfl) ?_
              refine withFrP (N := 203) rfl ?_
              intro f0 F0 hff
              have e6 : f0 6 = Value.slice (some ⟨g, 0, none⟩) j cap6 := hff 6
              have e8 : f0 8 = Value.int .i64 ((i : Nat) : Int) := hff 8
              clear hff
              have HCC : (fun wz => Below X2.heap.size X2 wz) (({ X2 with drawn := X2.drawn + 1 } : World)) := Below.drew (Below.refl _ _)
              refine lyp F0 rfl HCC rfl (by omega) (wanted_none rfl) (v := Value.slice (some ⟨g, 0, none⟩) j cap6) (fun wr hwr => by simp only [execOp, (F0.eval 6 (by omega)).trans (show _ = Value.slice (some ⟨g, 0, none⟩) j cap6 from by simp [upd, e6, e8])]; first | rfl | simp [go_sem]) fun F1 => ?_
              refine lyp F1 rfl HCC rfl (by omega) (wanted_none rfl) (v := Value.int .i64 ((i : Nat) : Int)) (fun wr hwr => by simp only [execOp, (F1.eval 8 (by omega)).trans (show _ = Value.int .i64 ((i : Nat) : Int) from by simp [upd, e6, e8])]; first | rfl | simp [go_sem]) fun F2 => ?_
              have hmj : j ≤ cap6 := hc6
              have hjw : WL.length = j := by have := HM.out; omega
              refine lyp F2 rfl HCC rfl (by omega) (wanted_none rfl) (v := Value.slice (some ⟨g, 0, none⟩) i cap6) (fun wr hwr => by simp only [execOp, Option.map, (F2.eval 100 (by omega)).trans (show _ = Value.slice (some ⟨g, 0, none⟩) j cap6 from by simp [upd, e6, e8]), (F2.eval 101 (by omega)).trans (show _ = Value.int .i64 ((i : Nat) : Int) from by simp [upd, e6, e8])]; simp only [Sem.run_bind, Sem.run_pure, Result.andThen_ok, slice_head 30 41 Try.underlying30 isz41 (some ⟨g, 0, none⟩) j cap6 i (by omega) wr]; try rfl) fun F3 => ?_
              have hrA : World.ownsRow (({ X2 with drawn := X2.drawn + 1 } : World)) base 41 8 (.slice (some ⟨g, 0, none⟩) WL.length cap6) WL.length (flatL WL) := HR2.out
              obtain ⟨v5, w5, hrun5, ho5, hg5⟩ := app_rows (w := (({ X2 with drawn := X2.drawn + 1 } : World))) 30 41 (.agg #[.int .i64 0, .string ⟨#[]⟩, .int .i64 0, .int .i64 0, .int .i64 0, .string ⟨#[]⟩, .int .i64 0, .int .i64 0]) 8 80 Try.underlying30 info41 rfl (by decide) (by decide) (World.ownsRow_nil (({ X2 with drawn := X2.drawn + 1 } : World)) base 41 8) (ao := some ⟨g, 0, none⟩) (m := i) (cap := cap6) (ys := flatL (WL.take i)) (by unfold flatL; rw [flat_len LO.row 8 row8, List.length_take, Nat.min_eq_left (by omega)]) (fun h => by cases h) (fun ad had jj u hu => by
                cases had
                refine hrA.cells (g := g) rfl jj u ?_
                unfold flatL at hu ⊢
                rw [← flat_take LO.row 8 row8 WL i, List.getElem?_take] at hu
                split at hu
                · exact hu
                · cases hu) (flatL_one _) (by omega) HCX2.out
              obtain ⟨ao5, cap5, hv5, hcc5⟩ := own_slice ho5
              subst hv5
              have hb5 : Below X2.heap.size X2 w5 := (Below.drew (Below.refl _ _)).trans (hg5.below (fun j hj => by cases hj) (Nat.le_refl _))
              refine lep F3 rfl HCC rfl (by omega) (wanted_none rfl) (v := Value.slice ao5 (0 + i) cap5) (w1 := w5) (by simp only [execOp, resolve, invoke, builtin, List.map_toArray, List.map_cons, List.map_nil, show ∀ a : Act, a.eval (Operand.const (Value.slice none 0 0)) = Value.slice none 0 0 from fun _ => rfl, (F3.eval 102 (by omega)).trans (show _ = Value.slice (some ⟨g, 0, none⟩) i cap6 from by simp [upd, e6, e8])]; simp only [Sem.run_bind, Sem.run_pure, Result.andThen_ok, hrun5]) fun F4 => ?_
              have HC5 : (fun wz => Below X2.heap.size X2 wz) w5 := hb5
              refine lyp F4 rfl HC5 rfl (by omega) (wanted_none rfl) (v := Value.slice (some ⟨g, 0, none⟩) j cap6) (fun wr hwr => by simp only [execOp, (F4.eval 6 (by omega)).trans (show _ = Value.slice (some ⟨g, 0, none⟩) j cap6 from by simp [upd, e6, e8])]; first | rfl | simp [go_sem]) fun F5 => ?_
              refine lyp F5 rfl HC5 rfl (by omega) (wanted_none rfl) (v := Value.int .i64 ((i : Nat) : Int)) (fun wr hwr => by simp only [execOp, (F5.eval 8 (by omega)).trans (show _ = Value.int .i64 ((i : Nat) : Int) from by simp [upd, e6, e8])]; first | rfl | simp [go_sem]) fun F6 => ?_
              refine lyp F6 rfl HC5 rfl (by omega) (wanted_none rfl) (v := Value.int .i64 ((i + 1 : Nat) : Int)) (fun wr hwr => by simp only [execOp, (F6.eval 105 (by omega)).trans (show _ = Value.int .i64 ((i : Nat) : Int) from by simp [upd, e6, e8])]; simp [go_sem, Act.eval]; try (rw [IntKind.wrap_i64]; omega)) fun F7 => ?_
              obtain ⟨ad2, hsl2, had2⟩ := slice_tail 30 41 Try.underlying30 isz41 g 0 j cap6 (i + 1) (by omega) hmj
              refine lyp F7 rfl HC5 rfl (by omega) (wanted_none rfl) (v := Value.slice (some ad2) (j - (i + 1)) (cap6 - (i + 1))) (fun wr hwr => by simp only [execOp, Option.map, (F7.eval 104 (by omega)).trans (show _ = Value.slice (some ⟨g, 0, none⟩) j cap6 from by simp [upd, e6, e8]), (F7.eval 106 (by omega)).trans (show _ = Value.int .i64 ((i + 1 : Nat) : Int) from by simp [upd, e6, e8])]; simp only [Sem.run_bind, Sem.run_pure, Result.andThen_ok, hsl2 wr]; try rfl) fun F8 => ?_
              have hr5 : World.ownsRow w5 base 41 8 (.slice (some ⟨g, 0, none⟩) WL.length cap6) WL.length (flatL WL) := ownsRow_same HR2.out (fun g e => hb5.block g (ownsRow_lt HR2.out e).2)
              obtain ⟨v7, w6, hrun7, ho7, hg7⟩ := app_rows (w := w5) 30 41 (.agg #[.int .i64 0, .string ⟨#[]⟩, .int .i64 0, .int .i64 0, .int .i64 0, .string ⟨#[]⟩, .int .i64 0, .int .i64 0]) 8 80 Try.underlying30 info41 rfl (by decide) (by decide) ho5 (ao := some ad2) (m := j - (i + 1)) (cap := cap6 - (i + 1)) (ys := flatL (WL.drop (i + 1))) (by unfold flatL; rw [flat_len LO.row 8 row8, List.length_drop, hjw]) (fun h => by cases h) (fun ad had jj u hu => by
                cases had
                have hlt2 : i + 1 < j := by
                  have h9 := (List.getElem?_eq_some_iff.1 hu).1
                  unfold flatL at h9
                  rw [flat_len LO.row 8 row8, List.length_drop, hjw] at h9
                  omega
                rw [had2 hlt2, addr_add, Nat.zero_add]
                unfold flatL at hu
                rw [← flat_drop LO.row 8 row8 WL (i + 1), List.getElem?_drop] at hu
                have h8 := hr5.cells (g := g) rfl ((i + 1) * 8 + jj) u hu
                rwa [addr_add, Nat.zero_add] at h8) (flatL_one _) (by omega) (Nat.le_trans HCX2.out hb5.size)
              obtain ⟨ao7, cap7, hv7, hcc7⟩ := own_slice ho7
              subst hv7
              refine lep F8 rfl HC5 rfl (by omega) (wanted_none rfl) (v := Value.slice ao7 (0 + i + (j - (i + 1))) cap7) (w1 := w6) (by simp only [execOp, resolve, invoke, builtin, List.map_toArray, List.map_cons, List.map_nil, show ∀ a : Act, a.eval (Operand.const (Value.slice none 0 0)) = Value.slice none 0 0 from fun _ => rfl, (F8.eval 103 (by omega)).trans (show _ = Value.slice ao5 (0 + i) cap5 from by simp [upd, e6, e8]), (F8.eval 107 (by omega)).trans (show _ = Value.slice (some ad2) (j - (i + 1)) (cap6 - (i + 1)) from by simp [upd, e6, e8])]; simp only [Sem.run_bind, Sem.run_pure, Result.andThen_ok, hrun7]) fun F9 => ?_
              have hb6 : Below X2.heap.size X2 w6 := hb5.trans (hg7.below (fun q hq => by
                have h3 := hg5.at' q hq
                rcases h3 with h3 | h3
                · cases h3
                · exact h3) hb5.size)
              have HC6 : (fun wz => Below X2.heap.size X2 wz) w6 := hb6
              have hT6 := HT2.out.more hb6
              have hr6 : World.ownsRow w6 base 41 8 (.slice ao7 (0 + i + (j - (i + 1))) cap7) (WL.eraseIdx i).length (flatL (WL.eraseIdx i)) := by
                have h3 := ho7
                rw [List.nil_append] at h3
                have e1 : flatL (WL.eraseIdx i) = flatL (WL.take i) ++ flatL (WL.drop (i + 1)) := by unfold flatL; rw [erase_split, List.flatMap_append]
                have e2 : (WL.eraseIdx i).length = 0 + i + (j - (i + 1)) := by rw [List.length_eraseIdx, if_pos (by omega), hjw]; omega
                rw [e1, e2]
                exact h3
              have hbb6 : Below w.heap.size w w6 := HBB2.out.trans (hb6.mono HBB2.out.size)
              have hbs6 : base ≤ w6.heap.size := Nat.le_trans HCX2.out hb6.size
              refine lyp F9 rfl HC6 rfl (by omega) (wanted_none rfl) (v := Value.slice ao7 (0 + i + (j - (i + 1))) cap7) (fun wr hwr => by simp only [execOp, (F9.eval 108 (by omega)).trans (show _ = Value.slice ao7 (0 + i + (j - (i + 1))) cap7 from by simp [upd, e6, e8])]; first | rfl | simp [go_sem]) fun F10 => ?_
              refine ⟨fun _ => HC6, ?_⟩
              refine hK _ _ ?_
              clear F0 F1 F2 F3 F4 F5 F6 F7 F8 F9 F10 e6 e8 HCC HC5 HC6 hrA hrun5 ho5 hg5 hb5 hcc5 hsl2 had2 hr5 hrun7 ho7 hg7 hcc7 hb6 hmj hjw
              simp only [Act.put, List.setIfInBounds_toArray, List.set_cons_succ, List.set_cons_zero]
              have hnd2 := nodup_erase i HLW.out.2.2.2
              have hlen2 : (WL.eraseIdx i).length ≤ k := by rw [List.length_eraseIdx, if_pos (by have := HM.out; omega)]; have := HM.out; have := HWK.out; omega
              have HN : Hid (OSE hb mh mw base w (k + 1) (.slice ao7 (0 + i + (j - (i + 1))) cap7) w6) := ⟨WL.eraseIdx i, Nat.le_succ_of_le hlen2, hT6, hr6, hnd2, hbb6, HLW.out.1, HLW.out.2.1, hbs6⟩
              clear hT6 hr6 hbb6 hbs6 hnd2 hlen2 HT2 HR2 HBB2 HCX2
              go_wp2_with fail
              go_roundw
              case rel => exact ⟨k + 1, by omega, by go_num, HN.out⟩
              case measure => simp [intOf]; omega
            · obtain ⟨hA1, hno⟩ := lastAt_no (show lastAt x.c WL j < 0 from by rw [← HA.out]; omega)
              rw [← HA.out] at hA1
              subst hA1
              have hno2 : ∀ y ∈ WL, y.c ≠ x.c := fun y hy => by
                obtain ⟨i, hi⟩ := List.getElem?_of_mem hy
                exact hno i y (by have := (List.getElem?_eq_some_iff.1 hi).1; have := HM.out; omega) hi
              obtain ⟨hlk, hrm⟩ := wt_none hno2
              have HTD : Hid (Calls Try.prog 18 #[.pointer (some ⟨hb, 0, none⟩), .agg #[.int .i64 x.c.1, .int .i64 x.c.2]] wr fun q w' => q = .returned (.tuple #[.agg #[.int .i64 0, .string ⟨#[]⟩, .int .i64 0, .int .i64 0], .bool false]) ∧ Tb hb mh mw 0 2 4 [] (wtOf WL) w' ∧ Chg (fun k => k = mw) wr w') := by
                have := told_any x.c wr HSr.out.t
                rw [hlk, hrm] at this
                exact this
              clear hlk hrm hno hno2 hA0 HA
              go_wp2_with fail
              refine Calls.mono HTD.out ?_
              rintro e w4 ⟨rfl, hT4, hC4⟩
              obtain ⟨hrow4, hbel4⟩ := HSr.out.setW hT4 hC4
              obtain ⟨X, hX⟩ : ∃ X, X = w4.alloc (.cells #[.int .i64 0, .string ⟨#[]⟩, .int .i64 0, .int .i64 0] 39) := ⟨_, rfl⟩
              obtain ⟨bx, hbx⟩ : ∃ bx, bx = w4.heap.size := ⟨_, rfl⟩
              have hbX : Below w4.heap.size w4 X := by rw [hX]; exact (Below.refl _ _).alloc (Nat.le_refl _) _
              have HBx : Hid (Blk X bx #[.int .i64 0, .string ⟨#[]⟩, .int .i64 0, .int .i64 0] 39) := show Blk X bx _ 39 from by rw [hX, hbx]; exact heap_alloc_new w4 _
              have hS4 : OS hb mh mw base (.slice ao6 j cap6) WL w w4 := ⟨hT4, hrow4, HSr.out.nd, hbel4, HSr.out.lo, HSr.out.lw, Nat.le_trans HSr.out.bs hC4.size⟩
              have HSX : Hid (OS hb mh mw base (.slice ao6 j cap6) WL w X) := hS4.more hbX
              clear hT4 hC4 hrow4 hbel4 hbX HTD x0 x2 x3 HRX hk4b HSr HS hS4
              go_upto_region 19 with fail
              rw [← hX, ← hbx]
              clear hX hbx
              go_wp2_with fail
              rename_i K hK
              try rw [show ∀ a : Act, a.put none undef = a from fun _ => rfl]
              refine wp_region_mix (fun wz => Below X.heap.size X wz) (fun i => i == 99) 99 (by kernel_rfl) rfl (by kernel_rfl) (by kernel_rfl) (by kernel_rfl) ?_
              refine withFrP (N := 203) rfl ?_
              intro f0 F0 hff
              have e8 : f0 8 = Value.int .i64 (-1) := hff 8
              have e10 : f0 10 = Value.pointer (some ⟨bx, 0, none⟩) := hff 10
              have e11 : f0 11 = Value.bool false := hff 11
              clear hff
              have HCC : (fun wz => Below X.heap.size X wz) (({ X with drawn := X.drawn + 1 } : World)) := Below.drew (Below.refl _ _)
              have BX0 : ∀ wz, Below X.heap.size X wz → wz.cell? ⟨bx, 0, none⟩ = some (.int .i64 0) := fun wz h => (Blk.below HBx.out h (Blk.lt HBx.out)).cell 0
              have BX1 : ∀ wz, Below X.heap.size X wz → wz.cell? ⟨bx, 1, none⟩ = some (.string ⟨#[]⟩) := fun wz h => (Blk.below HBx.out h (Blk.lt HBx.out)).cell 1
              have BX2 : ∀ wz, Below X.heap.size X wz → wz.cell? ⟨bx, 2, none⟩ = some (.int .i64 0) := fun wz h => (Blk.below HBx.out h (Blk.lt HBx.out)).cell 2
              have BX3 : ∀ wz, Below X.heap.size X wz → wz.cell? ⟨bx, 3, none⟩ = some (.int .i64 0) := fun wz h => (Blk.below HBx.out h (Blk.lt HBx.out)).cell 3
              refine lyp F0 rfl HCC rfl (by omega) (wanted_none rfl) (v := Value.bool false) (fun wr hwr => by simp only [execOp, (F0.eval 11 (by omega)).trans (show _ = Value.bool false from by simp [upd, e8, e10, e11])]; first | rfl | simp [go_sem]) fun F1 => ?_
              refine lyp F1 rfl HCC rfl (by omega) (wanted_none rfl) (v := Value.int .i64 (-1)) (fun wr hwr => by simp only [execOp, (F1.eval 8 (by omega)).trans (show _ = Value.int .i64 (-1) from by simp [upd, e8, e10, e11])]; first | rfl | simp [go_sem]) fun F2 => ?_
              refine lyp F2 rfl HCC rfl (by omega) (wanted_none rfl) (v := Value.bool false) (fun wr hwr => by simp only [execOp, (F2.eval 75 (by omega)).trans (show _ = Value.int .i64 (-1) from by simp [upd, e8, e10, e11])]; simp [go_sem, Act.eval]) fun F3 => ?_
              refine lyp F3 rfl HCC rfl (by omega) (wanted_none rfl) (v := Value.bool false) (fun wr hwr => by simp only [execOp, (F3.eval 74 (by omega)).trans (show _ = Value.bool false from by simp [upd, e8, e10, e11]), (F3.eval 76 (by omega)).trans (show _ = Value.bool false from by simp [upd, e8, e10, e11])]; simp [go_sem, Act.eval]) fun F4 => ?_
              refine lyp F4 rfl HCC rfl (by omega) (wanted_none rfl) (v := Value.bool false) (fun wr hwr => by simp only [execOp, (F4.eval 77 (by omega)).trans (show _ = Value.bool false from by simp [upd, e8, e10, e11])]; first | rfl | simp [go_sem]) fun F5 => ?_
              refine lyp F5 rfl HCC rfl (by omega) (want_yes F5 rfl (e := 78) rfl (by omega) (show _ = Value.bool false from by simp [upd, e8, e10, e11])) (v := Value.bool false) (fun wr hwr => by simp only [execOp, (F5.eval 11 (by omega)).trans (show _ = Value.bool false from by simp [upd, e8, e10, e11])]; first | rfl | simp [go_sem]) fun F6 => ?_
              refine lyp F6 rfl HCC rfl (by omega) (want_yes F6 rfl (e := 78) rfl (by omega) (show _ = Value.bool false from by simp [upd, e8, e10, e11])) (v := Value.bool false) (fun wr hwr => by simp only [execOp, (F6.eval 79 (by omega)).trans (show _ = Value.bool false from by simp [upd, e8, e10, e11])]; first | rfl | simp [go_sem]) fun F7 => ?_
              refine lnp F7 rfl HCC rfl (by omega) (want_no F7 rfl (e := 80) rfl (by omega) (show _ = Value.bool false from by simp [upd, e8, e10, e11]) (by decide)) fun F8 => ?_
              refine lnp F8 rfl HCC rfl (by omega) (want_no F8 rfl (e := 80) rfl (by omega) (show _ = Value.bool false from by simp [upd, e8, e10, e11]) (by decide)) fun F9 => ?_
              refine lnp F9 rfl HCC rfl (by omega) (want_no F9 rfl (e := 80) rfl (by omega) (show _ = Value.bool false from by simp [upd, e8, e10, e11]) (by decide)) fun F10 => ?_
              refine lnp F10 rfl HCC rfl (by omega) (want_no F10 rfl (e := 80) rfl (by omega) (show _ = Value.bool false from by simp [upd, e8, e10, e11]) (by decide)) fun F11 => ?_
              refine lnp F11 rfl HCC rfl (by omega) (want_no F11 rfl (e := 80) rfl (by omega) (show _ = Value.bool false from by simp [upd, e8, e10, e11]) (by decide)) fun F12 => ?_
              refine lnp F12 rfl HCC rfl (by omega) (want_no F12 rfl (e := 80) rfl (by omega) (show _ = Value.bool false from by simp [upd, e8, e10, e11]) (by decide)) fun F13 => ?_
              refine lnp F13 rfl HCC rfl (by omega) (want_no F13 rfl (e := 80) rfl (by omega) (show _ = Value.bool false from by simp [upd, e8, e10, e11]) (by decide)) fun F14 => ?_
              refine lyp F14 rfl HCC rfl (by omega) (want_yes F14 rfl (e := 78) rfl (by omega) (show _ = Value.bool false from by simp [upd, e8, e10, e11])) (v := Value.bool false) (fun wr hwr => by simp only [execOp, (F14.eval 80 (by omega)).trans (show _ = Value.bool false from by simp [upd, e8, e10, e11])]; simp [go_sem, Act.eval]) fun F15 => ?_
              refine lyp F15 rfl HCC rfl (by omega) (wanted_none rfl) (v := Value.bool false) (fun wr hwr => by simp only [execOp, (F15.eval 78 (by omega)).trans (show _ = Value.bool false from by simp [upd, e8, e10, e11]), (F15.eval 88 (by omega)).trans (show _ = Value.bool false from by simp [upd, e8, e10, e11])]; simp [go_sem, Act.eval]) fun F16 => ?_
              refine lyp F16 rfl HCC rfl (by omega) (wanted_none rfl) (v := Value.bool false) (fun wr hwr => by simp only [execOp, (F16.eval 89 (by omega)).trans (show _ = Value.bool false from by simp [upd, e8, e10, e11])]; first | rfl | simp [go_sem]) fun F17 => ?_
              refine lyp F17 rfl HCC rfl (by omega) (want_yes F17 rfl (e := 90) rfl (by omega) (show _ = Value.bool false from by simp [upd, e8, e10, e11])) (v := Value.bool false) (fun wr hwr => by simp only [execOp, (F17.eval 11 (by omega)).trans (show _ = Value.bool false from by simp [upd, e8, e10, e11])]; first | rfl | simp [go_sem]) fun F18 => ?_
              refine lyp F18 rfl HCC rfl (by omega) (want_yes F18 rfl (e := 90) rfl (by omega) (show _ = Value.bool false from by simp [upd, e8, e10, e11])) (v := Value.bool true) (fun wr hwr => by simp only [execOp, (F18.eval 91 (by omega)).trans (show _ = Value.bool false from by simp [upd, e8, e10, e11])]; simp [go_sem, Act.eval]) fun F19 => ?_
              refine lyp F19 rfl HCC rfl (by omega) (want_yes F19 rfl (e := 90) rfl (by omega) (show _ = Value.bool false from by simp [upd, e8, e10, e11])) (v := Value.bool true) (fun wr hwr => by simp only [execOp, (F19.eval 92 (by omega)).trans (show _ = Value.bool true from by simp [upd, e8, e10, e11])]; first | rfl | simp [go_sem]) fun F20 => ?_
              refine lyp F20 rfl HCC rfl (by omega) (want_yes F20 rfl (e := 93) rfl (by omega) (show _ = Value.bool true from by simp [upd, e8, e10, e11])) (v := Value.agg #[.int .i64 0, .string ⟨#[]⟩, .int .i64 0, .int .i64 0]) (fun wr hwr => by simp only [execOp, (F20.eval 10 (by omega)).trans (show _ = Value.pointer (some ⟨bx, 0, none⟩) from by simp [upd, e8, e10, e11])]; simp [go_sem, BX0 wr hwr, BX1 wr hwr, BX2 wr hwr, BX3 wr hwr]) fun F21 => ?_
              refine lyp F21 rfl HCC rfl (by omega) (want_yes F21 rfl (e := 93) rfl (by omega) (show _ = Value.bool true from by simp [upd, e8, e10, e11])) (v := Value.agg #[.int .i64 0, .string ⟨#[]⟩, .int .i64 0, .int .i64 0]) (fun wr hwr => by kernel_rfl) fun F22 => ?_
              refine lyp F22 rfl HCC rfl (by omega) (want_yes F22 rfl (e := 93) rfl (by omega) (show _ = Value.bool true from by simp [upd, e8, e10, e11])) (v := Value.bool false) (fun wr hwr => by simp only [execOp, (F22.eval 94 (by omega)).trans (show _ = Value.agg #[.int .i64 0, .string ⟨#[]⟩, .int .i64 0, .int .i64 0] from by simp [upd, e8, e10, e11]), (F22.eval 95 (by omega)).trans (show _ = Value.agg #[.int .i64 0, .string ⟨#[]⟩, .int .i64 0, .int .i64 0] from by simp [upd, e8, e10, e11])]; simp [go_sem, Act.eval]) fun F23 => ?_
              refine lyp F23 rfl HCC rfl (by omega) (want_yes F23 rfl (e := 90) rfl (by omega) (show _ = Value.bool false from by simp [upd, e8, e10, e11])) (v := Value.bool false) (fun wr hwr => by simp only [execOp, (F23.eval 93 (by omega)).trans (show _ = Value.bool true from by simp [upd, e8, e10, e11]), (F23.eval 96 (by omega)).trans (show _ = Value.bool false from by simp [upd, e8, e10, e11])]; simp [go_sem, Act.eval]) fun F24 => ?_
              refine lyp F24 rfl HCC rfl (by omega) (wanted_none rfl) (v := Value.bool false) (fun wr hwr => by simp only [execOp, (F24.eval 90 (by omega)).trans (show _ = Value.bool false from by simp [upd, e8, e10, e11]), (F24.eval 97 (by omega)).trans (show _ = Value.bool false from by simp [upd, e8, e10, e11])]; simp [go_sem, Act.eval]) fun F25 => ?_
              refine ⟨fun _ => HCC, ?_⟩
              refine hK _ _ ?_
              clear F0 F1 F2 F3 F4 F5 F6 F7 F8 F9 F10 F11 F12 F13 F14 F15 F16 F17 F18 F19 F20 F21 F22 F23 F24 F25 e8 e10 e11 HCC BX0 BX1 BX2 BX3
              simp only [Act.put, List.setIfInBounds_toArray, List.set_cons_succ, List.set_cons_zero]
              have HN : Hid (OSE hb mh mw base w (k + 1) (.slice ao6 j cap6) ({ X with drawn := X.drawn + 1 } : World)) := ⟨WL, by have := HM.out; have := HWK.out; omega, HSX.out.more (Below.drew (Below.refl _ _))⟩
              clear HSX HBx
              generalize ({ X with drawn := X.drawn + 1 } : World) = X2 at HN ⊢
              go_wp2_with fail
              go_roundw
              case rel => exact ⟨k + 1, by omega, by go_num, HN.out⟩
              case measure => simp [intOf]; omega
          · have hk4b : (x.k == 4) = false := by simpa using hk4
            clear hk4
            by_cases hgd : nameB x.o.n = false
            · have HGD : Hid (nameB x.o.n = false) := hgd
              have HAC : Hid (askCode (wtOf WL) x.c x.o = 1) := show _ = _ from by unfold askCode; rw [if_pos hgd]
              clear hgd
              have HAK : Hid (∀ w', Tb hb mh mw 0 2 4 [] (wtOf WL) w' → Calls Try.prog 19 #[.pointer (some ⟨hb, 0, none⟩), .agg #[.int .i64 x.c.1, .int .i64 x.c.2], .agg #[.int .i64 x.o.k, .string ⟨x.o.n.toArray⟩, .int .i64 x.o.a, .int .i64 x.o.b]] w' fun q w'' => q = .returned (.int .i64 1) ∧ Tb hb mh mw 0 2 4 [] (wtOf WL) w'' ∧ Chg (fun k => k = mw) w' w'') := fun w' hT => by
                have := ask_any x.c x.o w' hT (by have := HXO.out; unfold LO.ok OpA.ok at this; omega)
                rw [show askNext (wtOf WL) x.c x.o = (wtOf WL) from by unfold askNext; rw [HAC.out]; rfl, HAC.out] at this
                exact this
              go_wp2_with fail
              rename_i K hK
              try rw [show ∀ a : Act, a.put none undef = a from fun _ => rfl]
              refine wp_region_mix (fun wz => RowAt wz b (off + k * 8) x.row) (fun i => i == 11 || i == 99) 99 (by kernel_rfl) rfl (by kernel_rfl) (by kernel_rfl) (by kernel_rfl) ?_
              refine withFrP (N := 203) rfl ?_
              intro f0 F0 hff
              have e0 : f0 0 = Value.slice (some ⟨b, off, none⟩) N cap := hff 0
              have e4 : f0 4 = Value.pointer (some ⟨hb, 0, none⟩) := hff 4
              have e7 : f0 7 = Value.int .i64 ((k : Nat) : Int) := hff 7
              clear hff
              have HCC : (fun wz => RowAt wz b (off + k * 8) x.row) (({ wr with drawn := wr.drawn + 1 } : World)) := HRX.out
              refine lyp F0 rfl HCC rfl (by omega) (wanted_none rfl) (v := Value.pointer (some ⟨hb, 0, none⟩)) (fun wr hwr => by simp only [execOp, (F0.eval 4 (by omega)).trans (show _ = Value.pointer (some ⟨hb, 0, none⟩) from by simp [upd, e0, e4, e7])]; first | rfl | simp [go_sem]) fun Fb1 => ?_
              refine lyp Fb1 rfl HCC rfl (by omega) (wanted_none rfl) (v := Value.slice (some ⟨b, off, none⟩) N cap) (fun wr hwr => by simp only [execOp, (Fb1.eval 0 (by omega)).trans (show _ = Value.slice (some ⟨b, off, none⟩) N cap from by simp [upd, e0, e4, e7])]; first | rfl | simp [go_sem]) fun Fb2 => ?_
              refine lyp Fb2 rfl HCC rfl (by omega) (wanted_none rfl) (v := Value.int .i64 ((k : Nat) : Int)) (fun wr hwr => by simp only [execOp, (Fb2.eval 7 (by omega)).trans (show _ = Value.int .i64 ((k : Nat) : Int) from by simp [upd, e0, e4, e7])]; first | rfl | simp [go_sem]) fun Fb3 => ?_
              refine lyp Fb3 rfl HCC rfl (by omega) (wanted_none rfl) (v := Value.pointer (some ⟨b, off + k * 8, none⟩)) (fun wr hwr => by simp only [execOp, (Fb3.eval 110 (by omega)).trans (show _ = Value.slice (some ⟨b, off, none⟩) N cap from by simp [upd, e0, e4, e7]), (Fb3.eval 111 (by omega)).trans (show _ = Value.int .i64 ((k : Nat) : Int) from by simp [upd, e0, e4, e7])]; simp only [Sem.run_bind, Sem.run_pure, Result.andThen_ok, idx_run 30 41 8 Try.underlying30 isz41 wr b off N cap k hlt, Nat.zero_add, Nat.mul_one]; try rfl) fun Fb4 => ?_
              refine lyp Fb4 rfl HCC rfl (by omega) (wanted_none rfl) (v := Value.pointer (some ⟨b, off + k * 8 + 2, none⟩)) (fun wr hwr => by simp only [execOp, (Fb4.eval 112 (by omega)).trans (show _ = Value.pointer (some ⟨b, off + k * 8, none⟩) from by simp [upd, e0, e4, e7])]; simp [go_sem]) fun Fb5 => ?_
              refine lyp Fb5 rfl HCC rfl (by omega) (wanted_none rfl) (v := Value.agg #[.int .i64 x.c.1, .int .i64 x.c.2]) (fun wr hwr => by simp only [execOp, (Fb5.eval 113 (by omega)).trans (show _ = Value.pointer (some ⟨b, off + k * 8 + 2, none⟩) from by simp [upd, e0, e4, e7])]; simp [go_sem, show wr.cell? ⟨b, off + k * 8 + 2, none⟩ = some (Value.int .i64 x.c.1) from hwr 2 _ rfl, show wr.cell? ⟨b, off + k * 8 + 3, none⟩ = some (Value.int .i64 x.c.2) from hwr 3 _ rfl]) fun Fb6 => ?_
              refine lyp Fb6 rfl HCC rfl (by omega) (wanted_none rfl) (v := Value.slice (some ⟨b, off, none⟩) N cap) (fun wr hwr => by simp only [execOp, (Fb6.eval 0 (by omega)).trans (show _ = Value.slice (some ⟨b, off, none⟩) N cap from by simp [upd, e0, e4, e7])]; first | rfl | simp [go_sem]) fun Fb7 => ?_
              refine lyp Fb7 rfl HCC rfl (by omega) (wanted_none rfl) (v := Value.int .i64 ((k : Nat) : Int)) (fun wr hwr => by simp only [execOp, (Fb7.eval 7 (by omega)).trans (show _ = Value.int .i64 ((k : Nat) : Int) from by simp [upd, e0, e4, e7])]; first | rfl | simp [go_sem]) fun Fb8 => ?_
              refine lyp Fb8 rfl HCC rfl (by omega) (wanted_none rfl) (v := Value.pointer (some ⟨b, off + k * 8, none⟩)) (fun wr hwr => by simp only [execOp, (Fb8.eval 115 (by omega)).trans (show _ = Value.slice (some ⟨b, off, none⟩) N cap from by simp [upd, e0, e4, e7]), (Fb8.eval 116 (by omega)).trans (show _ = Value.int .i64 ((k : Nat) : Int) from by simp [upd, e0, e4, e7])]; simp only [Sem.run_bind, Sem.run_pure, Result.andThen_ok, idx_run 30 41 8 Try.underlying30 isz41 wr b off N cap k hlt, Nat.zero_add, Nat.mul_one]; try rfl) fun Fb9 => ?_
              refine lyp Fb9 rfl HCC rfl (by omega) (wanted_none rfl) (v := Value.pointer (some ⟨b, off + k * 8 + 4, none⟩)) (fun wr hwr => by simp only [execOp, (Fb9.eval 117 (by omega)).trans (show _ = Value.pointer (some ⟨b, off + k * 8, none⟩) from by simp [upd, e0, e4, e7])]; simp [go_sem]) fun Fb10 => ?_
              refine lyp Fb10 rfl HCC rfl (by omega) (wanted_none rfl) (v := Value.agg #[.int .i64 x.o.k, .string ⟨x.o.n.toArray⟩, .int .i64 x.o.a, .int .i64 x.o.b]) (fun wr hwr => by simp only [execOp, (Fb10.eval 118 (by omega)).trans (show _ = Value.pointer (some ⟨b, off + k * 8 + 4, none⟩) from by simp [upd, e0, e4, e7])]; simp [go_sem, show wr.cell? ⟨b, off + k * 8 + 4, none⟩ = some (Value.int .i64 x.o.k) from hwr 4 _ rfl, show wr.cell? ⟨b, off + k * 8 + 5, none⟩ = some (Value.string ⟨x.o.n.toArray⟩) from hwr 5 _ rfl, show wr.cell? ⟨b, off + k * 8 + 6, none⟩ = some (Value.int .i64 x.o.a) from hwr 6 _ rfl, show wr.cell? ⟨b, off + k * 8 + 7, none⟩ = some (Value.int .i64 x.o.b) from hwr 7 _ rfl]) fun Fb11 => ?_
              refine lcp Fb11 rfl HCC rfl (by omega) (wanted_none rfl) (g := 19) (args := #[Value.pointer (some ⟨hb, 0, none⟩), Value.agg #[.int .i64 x.c.1, .int .i64 x.c.2], Value.agg #[.int .i64 x.o.k, .string ⟨x.o.n.toArray⟩, .int .i64 x.o.a, .int .i64 x.o.b]]) (by simp only [execOp, resolve, invoke, List.map_toArray, List.map_cons, List.map_nil, (Fb11.eval 109 (by omega)).trans (show _ = Value.pointer (some ⟨hb, 0, none⟩) from by simp [upd, e0, e4, e7]), (Fb11.eval 114 (by omega)).trans (show _ = Value.agg #[.int .i64 x.c.1, .int .i64 x.c.2] from by simp [upd, e0, e4, e7]), (Fb11.eval 119 (by omega)).trans (show _ = Value.agg #[.int .i64 x.o.k, .string ⟨x.o.n.toArray⟩, .int .i64 x.o.a, .int .i64 x.o.b] from by simp [upd, e0, e4, e7])]; simp [go_sem, Act.eval]) (HAK.out (({ wr with drawn := wr.drawn + 1 } : World)) (HSr.out.t.more (Below.drew (Below.refl _ _)))) ?_
              rintro e w4 ⟨rfl, hT4, hC4⟩
              refine ⟨_, rfl, fun Fb12 => ?_⟩
              have hSd : OS hb mh mw base (.slice ao6 j cap6) WL w (({ wr with drawn := wr.drawn + 1 } : World)) := HSr.out.more (Below.drew (Below.refl _ _))
              obtain ⟨hrow4, hbel4⟩ := hSd.setW hT4 hC4
              have HC4 : (fun wz => RowAt wz b (off + k * 8) x.row) w4 := HCE.out w4 hbel4
              have hbs4 : base ≤ w4.heap.size := Nat.le_trans hSd.bs hC4.size
              refine lyp Fb12 rfl HC4 rfl (by omega) (wanted_none rfl) (v := Value.int .i64 1) (fun wr hwr => by simp only [execOp, (Fb12.eval 120 (by omega)).trans (show _ = Value.int .i64 1 from by simp [upd, e0, e4, e7])]; first | rfl | simp [go_sem]) fun Fb13 => ?_
              refine ⟨fun _ => HC4, ?_⟩
              refine hK _ _ ?_
              clear F0 Fb1 Fb2 Fb3 Fb4 Fb5 Fb6 Fb7 Fb8 Fb9 Fb10 Fb11 Fb12 Fb13 e0 e4 e7 HCC hSd hC4 HAK
              simp only [Act.put, List.setIfInBounds_toArray, List.set_cons_succ, List.set_cons_zero]
              have x5 : w4.cell? ⟨b, off + k * 8 + 4 + 1, none⟩ = some (.string ⟨x.o.n.toArray⟩) := HC4 5 _ rfl
              have x5b : w4.cell? ⟨b, off + k * 8 + 5, none⟩ = some (.string ⟨x.o.n.toArray⟩) := HC4 5 _ rfl
              have HC4r : Hid (RowAt w4 b (off + k * 8) x.row) := HC4
              have HT4 : Hid (Tb hb mh mw 0 2 4 [] (wtOf WL) w4) := hT4
              have HR4 : Hid (World.ownsRow w4 base 41 8 (.slice ao6 j cap6) WL.length (flatL WL)) := hrow4
              have HB4 : Hid (Below w.heap.size w w4 ∧ base ≤ w4.heap.size) := ⟨hbel4, hbs4⟩
              have HLW : Hid (w.heap.size ≤ base ∧ w.heap.size ≤ mw ∧ (WL.map (·.c)).Nodup) := ⟨HSr.out.lo, HSr.out.lw, HSr.out.nd⟩
              clear hT4 hrow4 hbel4 hbs4 HSr HS HC4 HRX x0 x2 x3
              go_wp2_with fail
              refine Calls.mono (good_as x.o.n w4 (by have := HXO.out; unfold LO.ok OpA.ok at this; omega) (b := false) HGD.out) ?_
              rintro e w5 ⟨rfl, hw5⟩
              replace hw5 := hw5.symm
              subst hw5
              go_wp2_with fail
              refine Calls.mono (num17 1 w4) ?_
              rintro e w5 ⟨rfl, hw5⟩
              replace hw5 := hw5.symm
              subst hw5
              have HN : Hid (OSE hb mh mw base w (k + 1) (.slice ao6 j cap6) w4) := ⟨WL, by have := HM.out; have := HWK.out; omega, HT4.out, HR4.out, HLW.out.2.2, HB4.out.1, HLW.out.1, HLW.out.2.1, HB4.out.2⟩
              clear HT4 HR4 HB4 HLW HC4r x5 x5b
              go_wp2_with fail
              go_roundw
              case rel => exact ⟨k + 1, by omega, by go_num, HN.out⟩
              case measure => simp [intOf]; omega
            · have HGD : Hid (nameB x.o.n = true) := show nameB x.o.n = true from by simpa using hgd
              by_cases hA0 : 0 ≤ A
              · obtain ⟨i, z, hAi, hzi, hzc⟩ := lastAt_yes (show 0 ≤ lastAt x.c WL j from by rw [← HA.out]; exact hA0)
                obtain ⟨hlk, hrm⟩ := wt_some HSr.out.nd hzi hzc
                have HAC : Hid (askCode (wtOf WL) x.c x.o = 133) := show _ = _ from by unfold askCode; rw [if_neg hgd, hlk]; rfl
                clear hAi hzi hzc hlk hrm hgd HA
                have HAK : Hid (∀ w', Tb hb mh mw 0 2 4 [] (wtOf WL) w' → Calls Try.prog 19 #[.pointer (some ⟨hb, 0, none⟩), .agg #[.int .i64 x.c.1, .int .i64 x.c.2], .agg #[.int .i64 x.o.k, .string ⟨x.o.n.toArray⟩, .int .i64 x.o.a, .int .i64 x.o.b]] w' fun q w'' => q = .returned (.int .i64 133) ∧ Tb hb mh mw 0 2 4 [] (wtOf WL) w'' ∧ Chg (fun k => k = mw) w' w'') := fun w' hT => by
                  have := ask_any x.c x.o w' hT (by have := HXO.out; unfold LO.ok OpA.ok at this; omega)
                  rw [show askNext (wtOf WL) x.c x.o = (wtOf WL) from by unfold askNext; rw [HAC.out]; rfl, HAC.out] at this
                  exact this
                go_wp2_with fail
                rename_i K hK
                try rw [show ∀ a : Act, a.put none undef = a from fun _ => rfl]
                refine wp_region_mix (fun wz => RowAt wz b (off + k * 8) x.row) (fun i => i == 11 || i == 99) 99 (by kernel_rfl) rfl (by kernel_rfl) (by kernel_rfl) (by kernel_rfl) ?_
                refine withFrP (N := 203) rfl ?_
                intro f0 F0 hff
                have e0 : f0 0 = Value.slice (some ⟨b, off, none⟩) N cap := hff 0
                have e4 : f0 4 = Value.pointer (some ⟨hb, 0, none⟩) := hff 4
                have e7 : f0 7 = Value.int .i64 ((k : Nat) : Int) := hff 7
                clear hff
                have HCC : (fun wz => RowAt wz b (off + k * 8) x.row) (({ wr with drawn := wr.drawn + 1 } : World)) := HRX.out
                refine lyp F0 rfl HCC rfl (by omega) (wanted_none rfl) (v := Value.pointer (some ⟨hb, 0, none⟩)) (fun wr hwr => by simp only [execOp, (F0.eval 4 (by omega)).trans (show _ = Value.pointer (some ⟨hb, 0, none⟩) from by simp [upd, e0, e4, e7])]; first | rfl | simp [go_sem]) fun Fb1 => ?_
                refine lyp Fb1 rfl HCC rfl (by omega) (wanted_none rfl) (v := Value.slice (some ⟨b, off, none⟩) N cap) (fun wr hwr => by simp only [execOp, (Fb1.eval 0 (by omega)).trans (show _ = Value.slice (some ⟨b, off, none⟩) N cap from by simp [upd, e0, e4, e7])]; first | rfl | simp [go_sem]) fun Fb2 => ?_
                refine lyp Fb2 rfl HCC rfl (by omega) (wanted_none rfl) (v := Value.int .i64 ((k : Nat) : Int)) (fun wr hwr => by simp only [execOp, (Fb2.eval 7 (by omega)).trans (show _ = Value.int .i64 ((k : Nat) : Int) from by simp [upd, e0, e4, e7])]; first | rfl | simp [go_sem]) fun Fb3 => ?_
                refine lyp Fb3 rfl HCC rfl (by omega) (wanted_none rfl) (v := Value.pointer (some ⟨b, off + k * 8, none⟩)) (fun wr hwr => by simp only [execOp, (Fb3.eval 110 (by omega)).trans (show _ = Value.slice (some ⟨b, off, none⟩) N cap from by simp [upd, e0, e4, e7]), (Fb3.eval 111 (by omega)).trans (show _ = Value.int .i64 ((k : Nat) : Int) from by simp [upd, e0, e4, e7])]; simp only [Sem.run_bind, Sem.run_pure, Result.andThen_ok, idx_run 30 41 8 Try.underlying30 isz41 wr b off N cap k hlt, Nat.zero_add, Nat.mul_one]; try rfl) fun Fb4 => ?_
                refine lyp Fb4 rfl HCC rfl (by omega) (wanted_none rfl) (v := Value.pointer (some ⟨b, off + k * 8 + 2, none⟩)) (fun wr hwr => by simp only [execOp, (Fb4.eval 112 (by omega)).trans (show _ = Value.pointer (some ⟨b, off + k * 8, none⟩) from by simp [upd, e0, e4, e7])]; simp [go_sem]) fun Fb5 => ?_
                refine lyp Fb5 rfl HCC rfl (by omega) (wanted_none rfl) (v := Value.agg #[.int .i64 x.c.1, .int .i64 x.c.2]) (fun wr hwr => by simp only [execOp, (Fb5.eval 113 (by omega)).trans (show _ = Value.pointer (some ⟨b, off + k * 8 + 2, none⟩) from by simp [upd, e0, e4, e7])]; simp [go_sem, show wr.cell? ⟨b, off + k * 8 + 2, none⟩ = some (Value.int .i64 x.c.1) from hwr 2 _ rfl, show wr.cell? ⟨b, off + k * 8 + 3, none⟩ = some (Value.int .i64 x.c.2) from hwr 3 _ rfl]) fun Fb6 => ?_
                refine lyp Fb6 rfl HCC rfl (by omega) (wanted_none rfl) (v := Value.slice (some ⟨b, off, none⟩) N cap) (fun wr hwr => by simp only [execOp, (Fb6.eval 0 (by omega)).trans (show _ = Value.slice (some ⟨b, off, none⟩) N cap from by simp [upd, e0, e4, e7])]; first | rfl | simp [go_sem]) fun Fb7 => ?_
                refine lyp Fb7 rfl HCC rfl (by omega) (wanted_none rfl) (v := Value.int .i64 ((k : Nat) : Int)) (fun wr hwr => by simp only [execOp, (Fb7.eval 7 (by omega)).trans (show _ = Value.int .i64 ((k : Nat) : Int) from by simp [upd, e0, e4, e7])]; first | rfl | simp [go_sem]) fun Fb8 => ?_
                refine lyp Fb8 rfl HCC rfl (by omega) (wanted_none rfl) (v := Value.pointer (some ⟨b, off + k * 8, none⟩)) (fun wr hwr => by simp only [execOp, (Fb8.eval 115 (by omega)).trans (show _ = Value.slice (some ⟨b, off, none⟩) N cap from by simp [upd, e0, e4, e7]), (Fb8.eval 116 (by omega)).trans (show _ = Value.int .i64 ((k : Nat) : Int) from by simp [upd, e0, e4, e7])]; simp only [Sem.run_bind, Sem.run_pure, Result.andThen_ok, idx_run 30 41 8 Try.underlying30 isz41 wr b off N cap k hlt, Nat.zero_add, Nat.mul_one]; try rfl) fun Fb9 => ?_
                refine lyp Fb9 rfl HCC rfl (by omega) (wanted_none rfl) (v := Value.pointer (some ⟨b, off + k * 8 + 4, none⟩)) (fun wr hwr => by simp only [execOp, (Fb9.eval 117 (by omega)).trans (show _ = Value.pointer (some ⟨b, off + k * 8, none⟩) from by simp [upd, e0, e4, e7])]; simp [go_sem]) fun Fb10 => ?_
                refine lyp Fb10 rfl HCC rfl (by omega) (wanted_none rfl) (v := Value.agg #[.int .i64 x.o.k, .string ⟨x.o.n.toArray⟩, .int .i64 x.o.a, .int .i64 x.o.b]) (fun wr hwr => by simp only [execOp, (Fb10.eval 118 (by omega)).trans (show _ = Value.pointer (some ⟨b, off + k * 8 + 4, none⟩) from by simp [upd, e0, e4, e7])]; simp [go_sem, show wr.cell? ⟨b, off + k * 8 + 4, none⟩ = some (Value.int .i64 x.o.k) from hwr 4 _ rfl, show wr.cell? ⟨b, off + k * 8 + 5, none⟩ = some (Value.string ⟨x.o.n.toArray⟩) from hwr 5 _ rfl, show wr.cell? ⟨b, off + k * 8 + 6, none⟩ = some (Value.int .i64 x.o.a) from hwr 6 _ rfl, show wr.cell? ⟨b, off + k * 8 + 7, none⟩ = some (Value.int .i64 x.o.b) from hwr 7 _ rfl]) fun Fb11 => ?_
                refine lcp Fb11 rfl HCC rfl (by omega) (wanted_none rfl) (g := 19) (args := #[Value.pointer (some ⟨hb, 0, none⟩), Value.agg #[.int .i64 x.c.1, .int .i64 x.c.2], Value.agg #[.int .i64 x.o.k, .string ⟨x.o.n.toArray⟩, .int .i64 x.o.a, .int .i64 x.o.b]]) (by simp only [execOp, resolve, invoke, List.map_toArray, List.map_cons, List.map_nil, (Fb11.eval 109 (by omega)).trans (show _ = Value.pointer (some ⟨hb, 0, none⟩) from by simp [upd, e0, e4, e7]), (Fb11.eval 114 (by omega)).trans (show _ = Value.agg #[.int .i64 x.c.1, .int .i64 x.c.2] from by simp [upd, e0, e4, e7]), (Fb11.eval 119 (by omega)).trans (show _ = Value.agg #[.int .i64 x.o.k, .string ⟨x.o.n.toArray⟩, .int .i64 x.o.a, .int .i64 x.o.b] from by simp [upd, e0, e4, e7])]; simp [go_sem, Act.eval]) (HAK.out (({ wr with drawn := wr.drawn + 1 } : World)) (HSr.out.t.more (Below.drew (Below.refl _ _)))) ?_
                rintro e w4 ⟨rfl, hT4, hC4⟩
                refine ⟨_, rfl, fun Fb12 => ?_⟩
                have hSd : OS hb mh mw base (.slice ao6 j cap6) WL w (({ wr with drawn := wr.drawn + 1 } : World)) := HSr.out.more (Below.drew (Below.refl _ _))
                obtain ⟨hrow4, hbel4⟩ := hSd.setW hT4 hC4
                have HC4 : (fun wz => RowAt wz b (off + k * 8) x.row) w4 := HCE.out w4 hbel4
                have hbs4 : base ≤ w4.heap.size := Nat.le_trans hSd.bs hC4.size
                refine lyp Fb12 rfl HC4 rfl (by omega) (wanted_none rfl) (v := Value.int .i64 133) (fun wr hwr => by simp only [execOp, (Fb12.eval 120 (by omega)).trans (show _ = Value.int .i64 133 from by simp [upd, e0, e4, e7])]; first | rfl | simp [go_sem]) fun Fb13 => ?_
                refine ⟨fun _ => HC4, ?_⟩
                refine hK _ _ ?_
                clear F0 Fb1 Fb2 Fb3 Fb4 Fb5 Fb6 Fb7 Fb8 Fb9 Fb10 Fb11 Fb12 Fb13 e0 e4 e7 HCC hSd hC4 HAK
                simp only [Act.put, List.setIfInBounds_toArray, List.set_cons_succ, List.set_cons_zero]
                have x5 : w4.cell? ⟨b, off + k * 8 + 4 + 1, none⟩ = some (.string ⟨x.o.n.toArray⟩) := HC4 5 _ rfl
                have x5b : w4.cell? ⟨b, off + k * 8 + 5, none⟩ = some (.string ⟨x.o.n.toArray⟩) := HC4 5 _ rfl
                have HC4r : Hid (RowAt w4 b (off + k * 8) x.row) := HC4
                have HT4 : Hid (Tb hb mh mw 0 2 4 [] (wtOf WL) w4) := hT4
                have HR4 : Hid (World.ownsRow w4 base 41 8 (.slice ao6 j cap6) WL.length (flatL WL)) := hrow4
                have HB4 : Hid (Below w.heap.size w w4 ∧ base ≤ w4.heap.size) := ⟨hbel4, hbs4⟩
                have HLW : Hid (w.heap.size ≤ base ∧ w.heap.size ≤ mw ∧ (WL.map (·.c)).Nodup) := ⟨HSr.out.lo, HSr.out.lw, HSr.out.nd⟩
                clear hT4 hrow4 hbel4 hbs4 HSr HS HC4 HRX x0 x2 x3
                go_wp2_with fail
                refine Calls.mono (good_as x.o.n w4 (by have := HXO.out; unfold LO.ok OpA.ok at this; omega) (b := true) HGD.out) ?_
                rintro e w5 ⟨rfl, hw5⟩
                replace hw5 := hw5.symm
                subst hw5
                go_wp2_with fail
                refine Calls.mono (num17 133 w4) ?_
                rintro e w5 ⟨rfl, hw5⟩
                replace hw5 := hw5.symm
                subst hw5
                have HN : Hid (OSE hb mh mw base w (k + 1) (.slice ao6 j cap6) w4) := ⟨WL, by have := HM.out; have := HWK.out; omega, HT4.out, HR4.out, HLW.out.2.2, HB4.out.1, HLW.out.1, HLW.out.2.1, HB4.out.2⟩
                clear HT4 HR4 HB4 HLW HC4r x5 x5b
                go_wp2_with fail
                go_roundw
                case rel => exact ⟨k + 1, by omega, by go_num, HN.out⟩
                case measure => simp [intOf]; omega
              · obtain ⟨hA1, hno⟩ := lastAt_no (show lastAt x.c WL j < 0 from by rw [← HA.out]; omega)
                have hno2 : ∀ y ∈ WL, y.c ≠ x.c := fun y hy => by
                  obtain ⟨i, hi⟩ := List.getElem?_of_mem hy
                  exact hno i y (by have := (List.getElem?_eq_some_iff.1 hi).1; have := HM.out; omega) hi
                obtain ⟨hlk, hrm⟩ := wt_none hno2
                have HAC : Hid (askCode (wtOf WL) x.c x.o = 0) := show _ = _ from by unfold askCode; rw [if_neg hgd, hlk]; rfl
                have HNO : Hid (∀ y ∈ WL, y.c ≠ x.c) := hno2
                clear hA1 hno hno2 hlk hrm hgd HA
                have HAK : Hid (∀ w', Tb hb mh mw 0 2 4 [] (wtOf WL) w' → Calls Try.prog 19 #[.pointer (some ⟨hb, 0, none⟩), .agg #[.int .i64 x.c.1, .int .i64 x.c.2], .agg #[.int .i64 x.o.k, .string ⟨x.o.n.toArray⟩, .int .i64 x.o.a, .int .i64 x.o.b]] w' fun q w'' => q = .returned (.int .i64 0) ∧ Tb hb mh mw 0 2 4 [] (wtOf WL ++ [(x.c, x.o)]) w'' ∧ Chg (fun k => k = mw) w' w'') := fun w' hT => by
                  have := ask_any x.c x.o w' hT (by have := HXO.out; unfold LO.ok OpA.ok at this; omega)
                  rw [show askNext (wtOf WL) x.c x.o = (wtOf WL ++ [(x.c, x.o)]) from by unfold askNext; rw [HAC.out]; rfl, HAC.out] at this
                  exact this
                go_wp2_with fail
                rename_i K hK
                try rw [show ∀ a : Act, a.put none undef = a from fun _ => rfl]
                refine wp_region_mix (fun wz => RowAt wz b (off + k * 8) x.row) (fun i => i == 11 || i == 99) 99 (by kernel_rfl) rfl (by kernel_rfl) (by kernel_rfl) (by kernel_rfl) ?_
                refine withFrP (N := 203) rfl ?_
                intro f0 F0 hff
                have e0 : f0 0 = Value.slice (some ⟨b, off, none⟩) N cap := hff 0
                have e4 : f0 4 = Value.pointer (some ⟨hb, 0, none⟩) := hff 4
                have e7 : f0 7 = Value.int .i64 ((k : Nat) : Int) := hff 7
                clear hff
                have HCC : (fun wz => RowAt wz b (off + k * 8) x.row) (({ wr with drawn := wr.drawn + 1 } : World)) := HRX.out
                refine lyp F0 rfl HCC rfl (by omega) (wanted_none rfl) (v := Value.pointer (some ⟨hb, 0, none⟩)) (fun wr hwr => by simp only [execOp, (F0.eval 4 (by omega)).trans (show _ = Value.pointer (some ⟨hb, 0, none⟩) from by simp [upd, e0, e4, e7])]; first | rfl | simp [go_sem]) fun Fb1 => ?_
                refine lyp Fb1 rfl HCC rfl (by omega) (wanted_none rfl) (v := Value.slice (some ⟨b, off, none⟩) N cap) (fun wr hwr => by simp only [execOp, (Fb1.eval 0 (by omega)).trans (show _ = Value.slice (some ⟨b, off, none⟩) N cap from by simp [upd, e0, e4, e7])]; first | rfl | simp [go_sem]) fun Fb2 => ?_
                refine lyp Fb2 rfl HCC rfl (by omega) (wanted_none rfl) (v := Value.int .i64 ((k : Nat) : Int)) (fun wr hwr => by simp only [execOp, (Fb2.eval 7 (by omega)).trans (show _ = Value.int .i64 ((k : Nat) : Int) from by simp [upd, e0, e4, e7])]; first | rfl | simp [go_sem]) fun Fb3 => ?_
                refine lyp Fb3 rfl HCC rfl (by omega) (wanted_none rfl) (v := Value.pointer (some ⟨b, off + k * 8, none⟩)) (fun wr hwr => by simp only [execOp, (Fb3.eval 110 (by omega)).trans (show _ = Value.slice (some ⟨b, off, none⟩) N cap from by simp [upd, e0, e4, e7]), (Fb3.eval 111 (by omega)).trans (show _ = Value.int .i64 ((k : Nat) : Int) from by simp [upd, e0, e4, e7])]; simp only [Sem.run_bind, Sem.run_pure, Result.andThen_ok, idx_run 30 41 8 Try.underlying30 isz41 wr b off N cap k hlt, Nat.zero_add, Nat.mul_one]; try rfl) fun Fb4 => ?_
                refine lyp Fb4 rfl HCC rfl (by omega) (wanted_none rfl) (v := Value.pointer (some ⟨b, off + k * 8 + 2, none⟩)) (fun wr hwr => by simp only [execOp, (Fb4.eval 112 (by omega)).trans (show _ = Value.pointer (some ⟨b, off + k * 8, none⟩) from by simp [upd, e0, e4, e7])]; simp [go_sem]) fun Fb5 => ?_
                refine lyp Fb5 rfl HCC rfl (by omega) (wanted_none rfl) (v := Value.agg #[.int .i64 x.c.1, .int .i64 x.c.2]) (fun wr hwr => by simp only [execOp, (Fb5.eval 113 (by omega)).trans (show _ = Value.pointer (some ⟨b, off + k * 8 + 2, none⟩) from by simp [upd, e0, e4, e7])]; simp [go_sem, show wr.cell? ⟨b, off + k * 8 + 2, none⟩ = some (Value.int .i64 x.c.1) from hwr 2 _ rfl, show wr.cell? ⟨b, off + k * 8 + 3, none⟩ = some (Value.int .i64 x.c.2) from hwr 3 _ rfl]) fun Fb6 => ?_
                refine lyp Fb6 rfl HCC rfl (by omega) (wanted_none rfl) (v := Value.slice (some ⟨b, off, none⟩) N cap) (fun wr hwr => by simp only [execOp, (Fb6.eval 0 (by omega)).trans (show _ = Value.slice (some ⟨b, off, none⟩) N cap from by simp [upd, e0, e4, e7])]; first | rfl | simp [go_sem]) fun Fb7 => ?_
                refine lyp Fb7 rfl HCC rfl (by omega) (wanted_none rfl) (v := Value.int .i64 ((k : Nat) : Int)) (fun wr hwr => by simp only [execOp, (Fb7.eval 7 (by omega)).trans (show _ = Value.int .i64 ((k : Nat) : Int) from by simp [upd, e0, e4, e7])]; first | rfl | simp [go_sem]) fun Fb8 => ?_
                refine lyp Fb8 rfl HCC rfl (by omega) (wanted_none rfl) (v := Value.pointer (some ⟨b, off + k * 8, none⟩)) (fun wr hwr => by simp only [execOp, (Fb8.eval 115 (by omega)).trans (show _ = Value.slice (some ⟨b, off, none⟩) N cap from by simp [upd, e0, e4, e7]), (Fb8.eval 116 (by omega)).trans (show _ = Value.int .i64 ((k : Nat) : Int) from by simp [upd, e0, e4, e7])]; simp only [Sem.run_bind, Sem.run_pure, Result.andThen_ok, idx_run 30 41 8 Try.underlying30 isz41 wr b off N cap k hlt, Nat.zero_add, Nat.mul_one]; try rfl) fun Fb9 => ?_
                refine lyp Fb9 rfl HCC rfl (by omega) (wanted_none rfl) (v := Value.pointer (some ⟨b, off + k * 8 + 4, none⟩)) (fun wr hwr => by simp only [execOp, (Fb9.eval 117 (by omega)).trans (show _ = Value.pointer (some ⟨b, off + k * 8, none⟩) from by simp [upd, e0, e4, e7])]; simp [go_sem]) fun Fb10 => ?_
                refine lyp Fb10 rfl HCC rfl (by omega) (wanted_none rfl) (v := Value.agg #[.int .i64 x.o.k, .string ⟨x.o.n.toArray⟩, .int .i64 x.o.a, .int .i64 x.o.b]) (fun wr hwr => by simp only [execOp, (Fb10.eval 118 (by omega)).trans (show _ = Value.pointer (some ⟨b, off + k * 8 + 4, none⟩) from by simp [upd, e0, e4, e7])]; simp [go_sem, show wr.cell? ⟨b, off + k * 8 + 4, none⟩ = some (Value.int .i64 x.o.k) from hwr 4 _ rfl, show wr.cell? ⟨b, off + k * 8 + 5, none⟩ = some (Value.string ⟨x.o.n.toArray⟩) from hwr 5 _ rfl, show wr.cell? ⟨b, off + k * 8 + 6, none⟩ = some (Value.int .i64 x.o.a) from hwr 6 _ rfl, show wr.cell? ⟨b, off + k * 8 + 7, none⟩ = some (Value.int .i64 x.o.b) from hwr 7 _ rfl]) fun Fb11 => ?_
                refine lcp Fb11 rfl HCC rfl (by omega) (wanted_none rfl) (g := 19) (args := #[Value.pointer (some ⟨hb, 0, none⟩), Value.agg #[.int .i64 x.c.1, .int .i64 x.c.2], Value.agg #[.int .i64 x.o.k, .string ⟨x.o.n.toArray⟩, .int .i64 x.o.a, .int .i64 x.o.b]]) (by simp only [execOp, resolve, invoke, List.map_toArray, List.map_cons, List.map_nil, (Fb11.eval 109 (by omega)).trans (show _ = Value.pointer (some ⟨hb, 0, none⟩) from by simp [upd, e0, e4, e7]), (Fb11.eval 114 (by omega)).trans (show _ = Value.agg #[.int .i64 x.c.1, .int .i64 x.c.2] from by simp [upd, e0, e4, e7]), (Fb11.eval 119 (by omega)).trans (show _ = Value.agg #[.int .i64 x.o.k, .string ⟨x.o.n.toArray⟩, .int .i64 x.o.a, .int .i64 x.o.b] from by simp [upd, e0, e4, e7])]; simp [go_sem, Act.eval]) (HAK.out (({ wr with drawn := wr.drawn + 1 } : World)) (HSr.out.t.more (Below.drew (Below.refl _ _)))) ?_
                rintro e w4 ⟨rfl, hT4, hC4⟩
                refine ⟨_, rfl, fun Fb12 => ?_⟩
                have hSd : OS hb mh mw base (.slice ao6 j cap6) WL w (({ wr with drawn := wr.drawn + 1 } : World)) := HSr.out.more (Below.drew (Below.refl _ _))
                obtain ⟨hrow4, hbel4⟩ := hSd.setW hT4 hC4
                have HC4 : (fun wz => RowAt wz b (off + k * 8) x.row) w4 := HCE.out w4 hbel4
                have hbs4 : base ≤ w4.heap.size := Nat.le_trans hSd.bs hC4.size
                refine lyp Fb12 rfl HC4 rfl (by omega) (wanted_none rfl) (v := Value.int .i64 0) (fun wr hwr => by simp only [execOp, (Fb12.eval 120 (by omega)).trans (show _ = Value.int .i64 0 from by simp [upd, e0, e4, e7])]; first | rfl | simp [go_sem]) fun Fb13 => ?_
                refine ⟨fun _ => HC4, ?_⟩
                refine hK _ _ ?_
                clear F0 Fb1 Fb2 Fb3 Fb4 Fb5 Fb6 Fb7 Fb8 Fb9 Fb10 Fb11 Fb12 Fb13 e0 e4 e7 HCC hSd hC4 HAK
                simp only [Act.put, List.setIfInBounds_toArray, List.set_cons_succ, List.set_cons_zero]
                have x5 : w4.cell? ⟨b, off + k * 8 + 4 + 1, none⟩ = some (.string ⟨x.o.n.toArray⟩) := HC4 5 _ rfl
                have x5b : w4.cell? ⟨b, off + k * 8 + 5, none⟩ = some (.string ⟨x.o.n.toArray⟩) := HC4 5 _ rfl
                have HC4r : Hid (RowAt w4 b (off + k * 8) x.row) := HC4
                have HT4 : Hid (Tb hb mh mw 0 2 4 [] (wtOf WL ++ [(x.c, x.o)]) w4) := hT4
                have HR4 : Hid (World.ownsRow w4 base 41 8 (.slice ao6 j cap6) WL.length (flatL WL)) := hrow4
                have HB4 : Hid (Below w.heap.size w w4 ∧ base ≤ w4.heap.size) := ⟨hbel4, hbs4⟩
                have HLW : Hid (w.heap.size ≤ base ∧ w.heap.size ≤ mw ∧ (WL.map (·.c)).Nodup) := ⟨HSr.out.lo, HSr.out.lw, HSr.out.nd⟩
                clear hT4 hrow4 hbel4 hbs4 HSr HS HC4 HRX x0 x2 x3
                go_wp2_with fail
                refine Calls.mono (good_as x.o.n w4 (by have := HXO.out; unfold LO.ok OpA.ok at this; omega) (b := true) HGD.out) ?_
                rintro e w5 ⟨rfl, hw5⟩
                replace hw5 := hw5.symm
                subst hw5
                go_wp2_with fail
                refine Calls.mono (num17 0 w4) ?_
                rintro e w5 ⟨rfl, hw5⟩
                replace hw5 := hw5.symm
                subst hw5
                have hal : Below w4.heap.size w4 (w4.alloc (.cells #[.int .i64 x.k, .string ⟨x.n.toArray⟩, .int .i64 x.c.1, .int .i64 x.c.2, .int .i64 x.o.k, .string ⟨x.o.n.toArray⟩, .int .i64 x.o.a, .int .i64 x.o.b] 41)) := (Below.refl _ _).alloc (Nat.le_refl _) _
                obtain ⟨v7, w6, hrun7, ho7, hg7⟩ := app_rows (w := w4.alloc (.cells #[.int .i64 x.k, .string ⟨x.n.toArray⟩, .int .i64 x.c.1, .int .i64 x.c.2, .int .i64 x.o.k, .string ⟨x.o.n.toArray⟩, .int .i64 x.o.a, .int .i64 x.o.b] 41)) 30 41 (.agg #[.int .i64 0, .string ⟨#[]⟩, .int .i64 0, .int .i64 0, .int .i64 0, .string ⟨#[]⟩, .int .i64 0, .int .i64 0]) 8 80 Try.underlying30 info41 rfl (by decide) (by decide) (World.ownsRow.alloc HR4.out _) (ao := some ⟨w4.heap.size, 0, none⟩) (m := 1) (cap := 1) (ys := x.row) rfl (fun h => by cases h) (fun ad had jj u hu => by
                  cases had
                  have hB : Blk (w4.alloc (.cells #[.int .i64 x.k, .string ⟨x.n.toArray⟩, .int .i64 x.c.1, .int .i64 x.c.2, .int .i64 x.o.k, .string ⟨x.o.n.toArray⟩, .int .i64 x.o.a, .int .i64 x.o.b] 41)) w4.heap.size #[.int .i64 x.k, .string ⟨x.n.toArray⟩, .int .i64 x.c.1, .int .i64 x.c.2, .int .i64 x.o.k, .string ⟨x.o.n.toArray⟩, .int .i64 x.o.a, .int .i64 x.o.b] 41 := heap_alloc_new w4 _
                  rw [addr_add, Nat.zero_add, hB.cell jj]
                  simpa [LO.row] using hu) (fun u hu => flatL_one [x] u (by simpa [flatL] using hu)) (by have := HM.out; omega) (by rw [World.size_alloc]; exact Nat.le_succ_of_le HB4.out.2)
                obtain ⟨ao7, cap7, hv7, hcc7⟩ := own_slice ho7
                subst hv7
                have hb6 : Below w.heap.size w w6 := (HB4.out.1.trans (hal.mono HB4.out.1.size)).trans (hg7.below (fun q hq => Nat.le_trans HLW.out.1 (ownsRow_lt HR4.out hq).1) (Nat.le_trans HB4.out.1.size hal.size))
                have hc6' : Chg (fun q => (Value.slice ao6 j cap6).ownBlock = some q) w4 w6 := (Chg.ofBelow _ hal).trans hg7.chg (fun _ _ e => e)
                have hneq : ∀ (q : Nat) (C : Array Value) (T : TypeId), Blk w4 q C T → T ≠ 41 → ¬ ((Value.slice ao6 j cap6).ownBlock = some q) := fun q C T hB hT e => by
                  obtain ⟨cu, hcu⟩ := ownsRow_type HR4.out e
                  exact Blk.ne_t hB (show Blk w4 q cu 41 from hcu) hT rfl
                have hmap : ∀ q, (∀ (C : Array Value) (T : TypeId), ¬ Blk w4 q C T) → ¬ ((Value.slice ao6 j cap6).ownBlock = some q) := fun q hn e => by
                  obtain ⟨cu, hcu⟩ := ownsRow_type HR4.out e
                  exact hn cu 41 hcu
                have hT6 : Tb hb mh mw 0 2 4 [] (wtOf WL ++ [(x.c, x.o)]) w6 := HT4.out.keep hc6' (hneq _ _ _ HT4.out.blk (by decide)) (hmap _ (fun C T hB => HT4.out.hm.ne_b hB rfl)) (hmap _ (fun C T hB => HT4.out.wm.ne_b hB rfl))
                have hfl : flatL (WL ++ [x]) = flatL WL ++ x.row := by unfold flatL; rw [List.flatMap_append]; simp
                have hr6 : World.ownsRow w6 base 41 8 (.slice ao7 (WL.length + 1) cap7) (WL ++ [x]).length (flatL (WL ++ [x])) := by
                  rw [hfl, List.length_append]
                  exact ho7
                have HN : Hid (OSE hb mh mw base w (k + 1) (.slice ao7 (WL.length + 1) cap7) w6) := ⟨WL ++ [x], by rw [List.length_append, ← HM.out]; have := HWK.out; simp; omega, by unfold wtOf; rw [List.map_append]; exact hT6, hr6, nodup_push HLW.out.2.2 HNO.out, hb6, HLW.out.1, HLW.out.2.1, Nat.le_trans HB4.out.2 (Nat.le_trans hal.size hg7.g.size)⟩
                have HR7 : Hid (∀ ty, (Builtin.append_ #[30, 30] ty #[.slice ao6 j cap6, .slice (some ⟨w4.heap.size, 0, none⟩) 1 1]).run Try.prog (w4.alloc (.cells #[.int .i64 x.k, .string ⟨x.n.toArray⟩, .int .i64 x.c.1, .int .i64 x.c.2, .int .i64 x.o.k, .string ⟨x.o.n.toArray⟩, .int .i64 x.o.a, .int .i64 x.o.b] 41)) = .ok (.slice ao7 (WL.length + 1) cap7) w6) := hrun7
                have y0 : w4.cell? ⟨b, off + k * 8, none⟩ = some (Value.int .i64 x.k) := HC4r.out 0 _ rfl
                have y1 : w4.cell? ⟨b, off + k * 8 + 1, none⟩ = some (Value.string ⟨x.n.toArray⟩) := HC4r.out 1 _ rfl
                have y2 : w4.cell? ⟨b, off + k * 8 + 2, none⟩ = some (Value.int .i64 x.c.1) := HC4r.out 2 _ rfl
                have y3 : w4.cell? ⟨b, off + k * 8 + 3, none⟩ = some (Value.int .i64 x.c.2) := HC4r.out 3 _ rfl
                have y4 : w4.cell? ⟨b, off + k * 8 + 4, none⟩ = some (Value.int .i64 x.o.k) := HC4r.out 4 _ rfl
                have y5 : w4.cell? ⟨b, off + k * 8 + 5, none⟩ = some (Value.string ⟨x.o.n.toArray⟩) := HC4r.out 5 _ rfl
                have y6 : w4.cell? ⟨b, off + k * 8 + 6, none⟩ = some (Value.int .i64 x.o.a) := HC4r.out 6 _ rfl
                have y7 : w4.cell? ⟨b, off + k * 8 + 7, none⟩ = some (Value.int .i64 x.o.b) := HC4r.out 7 _ rfl
                clear hal ho7 hg7 hb6 hc6' hneq hmap hT6 hfl hr6 hrun7 HT4 HR4 HB4 HLW HC4r x5 x5b hcc7
                go_wp2_with (at_builtin; refine wpList_runs rfl _ _ 30 rfl rfl rfl HR7.out ?_)
                go_roundw
                case rel => exact ⟨k + 1, by omega, by go_num, HN.out⟩
                case measure => simp [intOf]; omega
    · obtain rfl : k = N := by omega
      have HS : Hid (OS hb mh mw base (.slice ao6 m cap6) WL w wr) := show OS hb mh mw base (.slice ao6 m cap6) WL w wr from by rw [hm]; exact hS
      clear hS hm hWk
      go_wp2_with fail
      refine Calls.mono (asked_any wr HS.out.t (by unfold wtOf; rw [List.length_map, ← HM.out]; omega)) ?_
      rintro e w5 ⟨v, ys, rfl, hp, hso, hrow, hb5⟩
      have hnd : ys.Nodup := hp.nodup_iff.2 (by
        have := HS.out.nd
        unfold wtOf
        rw [List.map_map]
        exact this)
      have hst := strictC hso hnd
      have hyl : ys.length = m := by
        have := hp.length_eq
        unfold wtOf at this
        rw [List.length_map, List.length_map, ← HM.out] at this
        exact this
      obtain ⟨aoy, capy, hv, hcy⟩ := own_slice hrow
      subst hv
      have hcapy : capy ≤ maxLen := by obtain ⟨_, _, e, _, h, _⟩ := own_read hrow; cases e; exact h
      unfold maxLen at hcapy
      have hy100 : ys.length ≤ 100 := by omega
      have HST : Hid (ys.Pairwise (fun a b => ltC a b = true)) := hst
      have HRW : Hid (World.ownsRow w5 wr.heap.size 37 2 (.slice aoy ys.length capy) ys.length (flatC ys)) := hrow
      have HB5 : Hid (Below w.heap.size w w5) := HS.out.b.trans (hb5.mono HS.out.b.size)
      have HYL : Hid (ys.length = m) := hyl
      obtain ⟨Wl, hWl⟩ : ∃ Wl, Wl = wr := ⟨wr, rfl⟩
      subst hWl
      clear hp hso hrow hb5 hnd hst hyl HS HAT
      go_wp2_with fail
      go_loopw [14] (fun s14 wr => ∃ (i q : Nat), i ≤ 100 ∧ s14 = .int .i64 ((i + 1 : Nat) : Int) ∧ wr = w5.drewN q) (fun s14 _ => ys.length - (intOf s14).toNat)
      case atStart => exact ⟨0, 0, by omega, rfl, rfl⟩
      case round =>
        obtain ⟨i, q, hi, rfl, hwr⟩ := hrel
        have HWR : Hid (wr = w5.drewN q) := hwr
        by_cases hjl : i + 1 < ys.length
        · obtain ⟨p, hp⟩ : ∃ p, p = ys[i] := ⟨_, rfl⟩
          obtain ⟨r, hr⟩ : ∃ r, r = ys[i + 1] := ⟨_, rfl⟩
          have hlt2 : ltC p r = true := by rw [hp, hr]; exact List.pairwise_iff_getElem.1 HST.out i (i + 1) (by omega) hjl (by omega)
          rw [ltC_iff] at hlt2
          obtain ⟨g, hg⟩ : ∃ g, aoy = some ⟨g, 0, none⟩ := by
            obtain ⟨_, _, e, _, _, h⟩ := own_read HRW.out
            cases e
            obtain ⟨g, e, _⟩ := h (by omega)
            exact ⟨g, e⟩
          subst hg
          have hrr : World.ownsRow wr Wl.heap.size 37 2 (.slice (some ⟨g, 0, none⟩) ys.length capy) ys.length (flatC ys) := by rw [hwr]; exact HRW.out
          have hcell : ∀ (a : Nat) (y : Int × Int) (t : Nat) (u : Value), ys[a]? = some y → t < 2 → ([Value.int .i64 y.1, .int .i64 y.2] : List Value)[t]? = some u → wr.cell? ⟨g, a * 2 + t, none⟩ = some u := fun a y t u hy ht hu => by
            have := hrr.cells (g := g) rfl (a * 2 + t) u (by unfold flatC; rw [flat_at (fun c : Int × Int => [Value.int .i64 c.1, Value.int .i64 c.2]) 2 (fun _ => rfl) ys a t y hy ht]; exact hu)
            rwa [addr_add, Nat.zero_add] at this
          have p1 : wr.cell? ⟨g, i * 2, none⟩ = some (.int .i64 p.1) := hcell i p 0 _ (by rw [hp]; exact List.getElem?_eq_getElem (by omega)) (by omega) rfl
          have p2 : wr.cell? ⟨g, i * 2 + 1, none⟩ = some (.int .i64 p.2) := hcell i p 1 _ (by rw [hp]; exact List.getElem?_eq_getElem (by omega)) (by omega) rfl
          have r1 : wr.cell? ⟨g, (i + 1) * 2, none⟩ = some (.int .i64 r.1) := hcell (i + 1) r 0 _ (by rw [hr]; exact List.getElem?_eq_getElem hjl) (by omega) rfl
          have r2 : wr.cell? ⟨g, (i + 1) * 2 + 1, none⟩ = some (.int .i64 r.2) := hcell (i + 1) r 1 _ (by rw [hr]; exact List.getElem?_eq_getElem hjl) (by omega) rfl
          clear hcell hrr hp hr hwr
          by_cases hpe : p.1 = r.1
          · have hlt3 : p.2 < r.2 := by omega
            have HPE : Hid (p.1 = r.1) := hpe
            have hpr : p.1 ≤ r.1 := by omega
            clear hlt2
            go_wp2_with fail
            rename_i K hK
            try rw [show ∀ a : Act, a.put none undef = a from fun _ => rfl]
            refine wp_region_mix (fun wz => wz.cell? ⟨g, i * 2, none⟩ = some (.int .i64 p.1) ∧ wz.cell? ⟨g, i * 2 + 1, none⟩ = some (.int .i64 p.2) ∧ wz.cell? ⟨g, (i + 1) * 2, none⟩ = some (.int .i64 r.1) ∧ wz.cell? ⟨g, (i + 1) * 2 + 1, none⟩ = some (.int .i64 r.2)) (fun i => i == 99) 99 (by kernel_rfl) rfl (by kernel_rfl) (by kernel_rfl) (by kernel_rfl) ?_
            refine withFrP (N := 203) rfl ?_
            intro f0 F0 hff
            have e13 : f0 13 = Value.slice (some ⟨g, 0, none⟩) ys.length capy := hff 13
            have e14 : f0 14 = Value.int .i64 ((i + 1 : Nat) : Int) := hff 14
            clear hff
            have HCC : (fun wz => wz.cell? ⟨g, i * 2, none⟩ = some (.int .i64 p.1) ∧ wz.cell? ⟨g, i * 2 + 1, none⟩ = some (.int .i64 p.2) ∧ wz.cell? ⟨g, (i + 1) * 2, none⟩ = some (.int .i64 r.1) ∧ wz.cell? ⟨g, (i + 1) * 2 + 1, none⟩ = some (.int .i64 r.2)) (({ wr with drawn := wr.drawn + 1 } : World)) := ⟨p1, p2, r1, r2⟩
            refine lyp F0 rfl HCC rfl (by omega) (wanted_none rfl) (v := Value.slice (some ⟨g, 0, none⟩) ys.length capy) (fun wr hwr => by simp only [execOp, (F0.eval 13 (by omega)).trans (show _ = Value.slice (some ⟨g, 0, none⟩) ys.length capy from by simp [upd, e13, e14])]; first | rfl | simp [go_sem]) fun Fc1 => ?_
            refine lyp Fc1 rfl HCC rfl (by omega) (wanted_none rfl) (v := Value.int .i64 ((i + 1 : Nat) : Int)) (fun wr hwr => by simp only [execOp, (Fc1.eval 14 (by omega)).trans (show _ = Value.int .i64 ((i + 1 : Nat) : Int) from by simp [upd, e13, e14])]; first | rfl | simp [go_sem]) fun Fc2 => ?_
            refine lyp Fc2 rfl HCC rfl (by omega) (wanted_none rfl) (v := Value.int .i64 ((i : Nat) : Int)) (fun wr hwr => by simp only [execOp, (Fc2.eval 159 (by omega)).trans (show _ = Value.int .i64 ((i + 1 : Nat) : Int) from by simp [upd, e13, e14])]; simp [go_sem, Act.eval]; try (rw [IntKind.wrap_i64]; omega)) fun Fc3 => ?_
            refine lyp Fc3 rfl HCC rfl (by omega) (wanted_none rfl) (v := Value.pointer (some ⟨g, i * 2, none⟩)) (fun wr hwr => by simp only [execOp, (Fc3.eval 158 (by omega)).trans (show _ = Value.slice (some ⟨g, 0, none⟩) ys.length capy from by simp [upd, e13, e14]), (Fc3.eval 160 (by omega)).trans (show _ = Value.int .i64 ((i : Nat) : Int) from by simp [upd, e13, e14])]; simp only [Sem.run_bind, Sem.run_pure, Result.andThen_ok, idx_run 45 37 2 Try.underlying45 isz37 wr g 0 ys.length capy i (by omega), Nat.zero_add, Nat.mul_one]; try rfl) fun Fc4 => ?_
            refine lyp Fc4 rfl HCC rfl (by omega) (wanted_none rfl) (v := Value.pointer (some ⟨g, i * 2, none⟩)) (fun wr hwr => by simp only [execOp, (Fc4.eval 161 (by omega)).trans (show _ = Value.pointer (some ⟨g, i * 2, none⟩) from by simp [upd, e13, e14])]; simp [go_sem]) fun Fc5 => ?_
            refine lyp Fc5 rfl HCC rfl (by omega) (wanted_none rfl) (v := Value.int .i64 p.1) (fun wr hwr => by simp only [execOp, (Fc5.eval 162 (by omega)).trans (show _ = Value.pointer (some ⟨g, i * 2, none⟩) from by simp [upd, e13, e14])]; simp [go_sem, hwr.1]) fun Fc6 => ?_
            refine lyp Fc6 rfl HCC rfl (by omega) (wanted_none rfl) (v := Value.slice (some ⟨g, 0, none⟩) ys.length capy) (fun wr hwr => by simp only [execOp, (Fc6.eval 13 (by omega)).trans (show _ = Value.slice (some ⟨g, 0, none⟩) ys.length capy from by simp [upd, e13, e14])]; first | rfl | simp [go_sem]) fun Fc7 => ?_
            refine lyp Fc7 rfl HCC rfl (by omega) (wanted_none rfl) (v := Value.int .i64 ((i + 1 : Nat) : Int)) (fun wr hwr => by simp only [execOp, (Fc7.eval 14 (by omega)).trans (show _ = Value.int .i64 ((i + 1 : Nat) : Int) from by simp [upd, e13, e14])]; first | rfl | simp [go_sem]) fun Fc8 => ?_
            refine lyp Fc8 rfl HCC rfl (by omega) (wanted_none rfl) (v := Value.pointer (some ⟨g, (i + 1) * 2, none⟩)) (fun wr hwr => by simp only [execOp, (Fc8.eval 164 (by omega)).trans (show _ = Value.slice (some ⟨g, 0, none⟩) ys.length capy from by simp [upd, e13, e14]), (Fc8.eval 165 (by omega)).trans (show _ = Value.int .i64 ((i + 1 : Nat) : Int) from by simp [upd, e13, e14])]; simp only [Sem.run_bind, Sem.run_pure, Result.andThen_ok, idx_run 45 37 2 Try.underlying45 isz37 wr g 0 ys.length capy (i + 1) hjl, Nat.zero_add, Nat.mul_one]; try rfl) fun Fc9 => ?_
            refine lyp Fc9 rfl HCC rfl (by omega) (wanted_none rfl) (v := Value.pointer (some ⟨g, (i + 1) * 2, none⟩)) (fun wr hwr => by simp only [execOp, (Fc9.eval 166 (by omega)).trans (show _ = Value.pointer (some ⟨g, (i + 1) * 2, none⟩) from by simp [upd, e13, e14])]; simp [go_sem]) fun Fc10 => ?_
            refine lyp Fc10 rfl HCC rfl (by omega) (wanted_none rfl) (v := Value.int .i64 r.1) (fun wr hwr => by simp only [execOp, (Fc10.eval 167 (by omega)).trans (show _ = Value.pointer (some ⟨g, (i + 1) * 2, none⟩) from by simp [upd, e13, e14])]; simp [go_sem, hwr.2.2.1]) fun Fc11 => ?_
            refine lyp Fc11 rfl HCC rfl (by omega) (wanted_none rfl) (v := Value.bool false) (fun wr hwr => by simp only [execOp, (Fc11.eval 163 (by omega)).trans (show _ = Value.int .i64 p.1 from by simp [upd, e13, e14]), (Fc11.eval 168 (by omega)).trans (show _ = Value.int .i64 r.1 from by simp [upd, e13, e14])]; simp [go_sem, Act.eval]; try omega) fun Fc12 => ?_
            refine lyp Fc12 rfl HCC rfl (by omega) (wanted_none rfl) (v := Value.bool false) (fun wr hwr => by simp only [execOp, (Fc12.eval 169 (by omega)).trans (show _ = Value.bool false from by simp [upd, e13, e14])]; first | rfl | simp [go_sem]) fun Fc13 => ?_
            refine lyp Fc13 rfl HCC rfl (by omega) (want_yes Fc13 rfl (e := 170) rfl (by omega) (show _ = Value.bool false from by simp [upd, e13, e14])) (v := Value.slice (some ⟨g, 0, none⟩) ys.length capy) (fun wr hwr => by simp only [execOp, (Fc13.eval 13 (by omega)).trans (show _ = Value.slice (some ⟨g, 0, none⟩) ys.length capy from by simp [upd, e13, e14])]; first | rfl | simp [go_sem]) fun Fc14 => ?_
            refine lyp Fc14 rfl HCC rfl (by omega) (want_yes Fc14 rfl (e := 170) rfl (by omega) (show _ = Value.bool false from by simp [upd, e13, e14])) (v := Value.int .i64 ((i + 1 : Nat) : Int)) (fun wr hwr => by simp only [execOp, (Fc14.eval 14 (by omega)).trans (show _ = Value.int .i64 ((i + 1 : Nat) : Int) from by simp [upd, e13, e14])]; first | rfl | simp [go_sem]) fun Fc15 => ?_
            refine lyp Fc15 rfl HCC rfl (by omega) (want_yes Fc15 rfl (e := 170) rfl (by omega) (show _ = Value.bool false from by simp [upd, e13, e14])) (v := Value.int .i64 ((i : Nat) : Int)) (fun wr hwr => by simp only [execOp, (Fc15.eval 172 (by omega)).trans (show _ = Value.int .i64 ((i + 1 : Nat) : Int) from by simp [upd, e13, e14])]; simp [go_sem, Act.eval]; try (rw [IntKind.wrap_i64]; omega)) fun Fc16 => ?_
            refine lyp Fc16 rfl HCC rfl (by omega) (want_yes Fc16 rfl (e := 170) rfl (by omega) (show _ = Value.bool false from by simp [upd, e13, e14])) (v := Value.pointer (some ⟨g, i * 2, none⟩)) (fun wr hwr => by simp only [execOp, (Fc16.eval 171 (by omega)).trans (show _ = Value.slice (some ⟨g, 0, none⟩) ys.length capy from by simp [upd, e13, e14]), (Fc16.eval 173 (by omega)).trans (show _ = Value.int .i64 ((i : Nat) : Int) from by simp [upd, e13, e14])]; simp only [Sem.run_bind, Sem.run_pure, Result.andThen_ok, idx_run 45 37 2 Try.underlying45 isz37 wr g 0 ys.length capy i (by omega), Nat.zero_add, Nat.mul_one]; try rfl) fun Fc17 => ?_
            refine lyp Fc17 rfl HCC rfl (by omega) (want_yes Fc17 rfl (e := 170) rfl (by omega) (show _ = Value.bool false from by simp [upd, e13, e14])) (v := Value.pointer (some ⟨g, i * 2, none⟩)) (fun wr hwr => by simp only [execOp, (Fc17.eval 174 (by omega)).trans (show _ = Value.pointer (some ⟨g, i * 2, none⟩) from by simp [upd, e13, e14])]; simp [go_sem]) fun Fc18 => ?_
            refine lyp Fc18 rfl HCC rfl (by omega) (want_yes Fc18 rfl (e := 170) rfl (by omega) (show _ = Value.bool false from by simp [upd, e13, e14])) (v := Value.int .i64 p.1) (fun wr hwr => by simp only [execOp, (Fc18.eval 175 (by omega)).trans (show _ = Value.pointer (some ⟨g, i * 2, none⟩) from by simp [upd, e13, e14])]; simp [go_sem, hwr.1]) fun Fc19 => ?_
            refine lyp Fc19 rfl HCC rfl (by omega) (want_yes Fc19 rfl (e := 170) rfl (by omega) (show _ = Value.bool false from by simp [upd, e13, e14])) (v := Value.slice (some ⟨g, 0, none⟩) ys.length capy) (fun wr hwr => by simp only [execOp, (Fc19.eval 13 (by omega)).trans (show _ = Value.slice (some ⟨g, 0, none⟩) ys.length capy from by simp [upd, e13, e14])]; first | rfl | simp [go_sem]) fun Fc20 => ?_
            refine lyp Fc20 rfl HCC rfl (by omega) (want_yes Fc20 rfl (e := 170) rfl (by omega) (show _ = Value.bool false from by simp [upd, e13, e14])) (v := Value.int .i64 ((i + 1 : Nat) : Int)) (fun wr hwr => by simp only [execOp, (Fc20.eval 14 (by omega)).trans (show _ = Value.int .i64 ((i + 1 : Nat) : Int) from by simp [upd, e13, e14])]; first | rfl | simp [go_sem]) fun Fc21 => ?_
            refine lyp Fc21 rfl HCC rfl (by omega) (want_yes Fc21 rfl (e := 170) rfl (by omega) (show _ = Value.bool false from by simp [upd, e13, e14])) (v := Value.pointer (some ⟨g, (i + 1) * 2, none⟩)) (fun wr hwr => by simp only [execOp, (Fc21.eval 177 (by omega)).trans (show _ = Value.slice (some ⟨g, 0, none⟩) ys.length capy from by simp [upd, e13, e14]), (Fc21.eval 178 (by omega)).trans (show _ = Value.int .i64 ((i + 1 : Nat) : Int) from by simp [upd, e13, e14])]; simp only [Sem.run_bind, Sem.run_pure, Result.andThen_ok, idx_run 45 37 2 Try.underlying45 isz37 wr g 0 ys.length capy (i + 1) hjl, Nat.zero_add, Nat.mul_one]; try rfl) fun Fc22 => ?_
            refine lyp Fc22 rfl HCC rfl (by omega) (want_yes Fc22 rfl (e := 170) rfl (by omega) (show _ = Value.bool false from by simp [upd, e13, e14])) (v := Value.pointer (some ⟨g, (i + 1) * 2, none⟩)) (fun wr hwr => by simp only [execOp, (Fc22.eval 179 (by omega)).trans (show _ = Value.pointer (some ⟨g, (i + 1) * 2, none⟩) from by simp [upd, e13, e14])]; simp [go_sem]) fun Fc23 => ?_
            refine lyp Fc23 rfl HCC rfl (by omega) (want_yes Fc23 rfl (e := 170) rfl (by omega) (show _ = Value.bool false from by simp [upd, e13, e14])) (v := Value.int .i64 r.1) (fun wr hwr => by simp only [execOp, (Fc23.eval 180 (by omega)).trans (show _ = Value.pointer (some ⟨g, (i + 1) * 2, none⟩) from by simp [upd, e13, e14])]; simp [go_sem, hwr.2.2.1]) fun Fc24 => ?_
            refine lyp Fc24 rfl HCC rfl (by omega) (want_yes Fc24 rfl (e := 170) rfl (by omega) (show _ = Value.bool false from by simp [upd, e13, e14])) (v := Value.bool true) (fun wr hwr => by simp only [execOp, (Fc24.eval 176 (by omega)).trans (show _ = Value.int .i64 p.1 from by simp [upd, e13, e14]), (Fc24.eval 181 (by omega)).trans (show _ = Value.int .i64 r.1 from by simp [upd, e13, e14])]; simp [go_sem, Act.eval]; try omega) fun Fc25 => ?_
            refine lyp Fc25 rfl HCC rfl (by omega) (want_yes Fc25 rfl (e := 170) rfl (by omega) (show _ = Value.bool false from by simp [upd, e13, e14])) (v := Value.bool true) (fun wr hwr => by simp only [execOp, (Fc25.eval 182 (by omega)).trans (show _ = Value.bool true from by simp [upd, e13, e14])]; first | rfl | simp [go_sem]) fun Fc26 => ?_
            refine lyp Fc26 rfl HCC rfl (by omega) (want_yes Fc26 rfl (e := 183) rfl (by omega) (show _ = Value.bool true from by simp [upd, e13, e14])) (v := Value.slice (some ⟨g, 0, none⟩) ys.length capy) (fun wr hwr => by simp only [execOp, (Fc26.eval 13 (by omega)).trans (show _ = Value.slice (some ⟨g, 0, none⟩) ys.length capy from by simp [upd, e13, e14])]; first | rfl | simp [go_sem]) fun Fc27 => ?_
            refine lyp Fc27 rfl HCC rfl (by omega) (want_yes Fc27 rfl (e := 183) rfl (by omega) (show _ = Value.bool true from by simp [upd, e13, e14])) (v := Value.int .i64 ((i + 1 : Nat) : Int)) (fun wr hwr => by simp only [execOp, (Fc27.eval 14 (by omega)).trans (show _ = Value.int .i64 ((i + 1 : Nat) : Int) from by simp [upd, e13, e14])]; first | rfl | simp [go_sem]) fun Fc28 => ?_
            refine lyp Fc28 rfl HCC rfl (by omega) (want_yes Fc28 rfl (e := 183) rfl (by omega) (show _ = Value.bool true from by simp [upd, e13, e14])) (v := Value.int .i64 ((i : Nat) : Int)) (fun wr hwr => by simp only [execOp, (Fc28.eval 185 (by omega)).trans (show _ = Value.int .i64 ((i + 1 : Nat) : Int) from by simp [upd, e13, e14])]; simp [go_sem, Act.eval]; try (rw [IntKind.wrap_i64]; omega)) fun Fc29 => ?_
            refine lyp Fc29 rfl HCC rfl (by omega) (want_yes Fc29 rfl (e := 183) rfl (by omega) (show _ = Value.bool true from by simp [upd, e13, e14])) (v := Value.pointer (some ⟨g, i * 2, none⟩)) (fun wr hwr => by simp only [execOp, (Fc29.eval 184 (by omega)).trans (show _ = Value.slice (some ⟨g, 0, none⟩) ys.length capy from by simp [upd, e13, e14]), (Fc29.eval 186 (by omega)).trans (show _ = Value.int .i64 ((i : Nat) : Int) from by simp [upd, e13, e14])]; simp only [Sem.run_bind, Sem.run_pure, Result.andThen_ok, idx_run 45 37 2 Try.underlying45 isz37 wr g 0 ys.length capy i (by omega), Nat.zero_add, Nat.mul_one]; try rfl) fun Fc30 => ?_
            refine lyp Fc30 rfl HCC rfl (by omega) (want_yes Fc30 rfl (e := 183) rfl (by omega) (show _ = Value.bool true from by simp [upd, e13, e14])) (v := Value.pointer (some ⟨g, i * 2 + 1, none⟩)) (fun wr hwr => by simp only [execOp, (Fc30.eval 187 (by omega)).trans (show _ = Value.pointer (some ⟨g, i * 2, none⟩) from by simp [upd, e13, e14])]; simp [go_sem]) fun Fc31 => ?_
            refine lyp Fc31 rfl HCC rfl (by omega) (want_yes Fc31 rfl (e := 183) rfl (by omega) (show _ = Value.bool true from by simp [upd, e13, e14])) (v := Value.int .i64 p.2) (fun wr hwr => by simp only [execOp, (Fc31.eval 188 (by omega)).trans (show _ = Value.pointer (some ⟨g, i * 2 + 1, none⟩) from by simp [upd, e13, e14])]; simp [go_sem, hwr.2.1]) fun Fc32 => ?_
            refine lyp Fc32 rfl HCC rfl (by omega) (want_yes Fc32 rfl (e := 183) rfl (by omega) (show _ = Value.bool true from by simp [upd, e13, e14])) (v := Value.slice (some ⟨g, 0, none⟩) ys.length capy) (fun wr hwr => by simp only [execOp, (Fc32.eval 13 (by omega)).trans (show _ = Value.slice (some ⟨g, 0, none⟩) ys.length capy from by simp [upd, e13, e14])]; first | rfl | simp [go_sem]) fun Fc33 => ?_
            refine lyp Fc33 rfl HCC rfl (by omega) (want_yes Fc33 rfl (e := 183) rfl (by omega) (show _ = Value.bool true from by simp [upd, e13, e14])) (v := Value.int .i64 ((i + 1 : Nat) : Int)) (fun wr hwr => by simp only [execOp, (Fc33.eval 14 (by omega)).trans (show _ = Value.int .i64 ((i + 1 : Nat) : Int) from by simp [upd, e13, e14])]; first | rfl | simp [go_sem]) fun Fc34 => ?_
            refine lyp Fc34 rfl HCC rfl (by omega) (want_yes Fc34 rfl (e := 183) rfl (by omega) (show _ = Value.bool true from by simp [upd, e13, e14])) (v := Value.pointer (some ⟨g, (i + 1) * 2, none⟩)) (fun wr hwr => by simp only [execOp, (Fc34.eval 190 (by omega)).trans (show _ = Value.slice (some ⟨g, 0, none⟩) ys.length capy from by simp [upd, e13, e14]), (Fc34.eval 191 (by omega)).trans (show _ = Value.int .i64 ((i + 1 : Nat) : Int) from by simp [upd, e13, e14])]; simp only [Sem.run_bind, Sem.run_pure, Result.andThen_ok, idx_run 45 37 2 Try.underlying45 isz37 wr g 0 ys.length capy (i + 1) hjl, Nat.zero_add, Nat.mul_one]; try rfl) fun Fc35 => ?_
            refine lyp Fc35 rfl HCC rfl (by omega) (want_yes Fc35 rfl (e := 183) rfl (by omega) (show _ = Value.bool true from by simp [upd, e13, e14])) (v := Value.pointer (some ⟨g, (i + 1) * 2 + 1, none⟩)) (fun wr hwr => by simp only [execOp, (Fc35.eval 192 (by omega)).trans (show _ = Value.pointer (some ⟨g, (i + 1) * 2, none⟩) from by simp [upd, e13, e14])]; simp [go_sem]) fun Fc36 => ?_
            refine lyp Fc36 rfl HCC rfl (by omega) (want_yes Fc36 rfl (e := 183) rfl (by omega) (show _ = Value.bool true from by simp [upd, e13, e14])) (v := Value.int .i64 r.2) (fun wr hwr => by simp only [execOp, (Fc36.eval 193 (by omega)).trans (show _ = Value.pointer (some ⟨g, (i + 1) * 2 + 1, none⟩) from by simp [upd, e13, e14])]; simp [go_sem, hwr.2.2.2]) fun Fc37 => ?_
            refine lyp Fc37 rfl HCC rfl (by omega) (want_yes Fc37 rfl (e := 183) rfl (by omega) (show _ = Value.bool true from by simp [upd, e13, e14])) (v := Value.bool false) (fun wr hwr => by simp only [execOp, (Fc37.eval 189 (by omega)).trans (show _ = Value.int .i64 p.2 from by simp [upd, e13, e14]), (Fc37.eval 194 (by omega)).trans (show _ = Value.int .i64 r.2 from by simp [upd, e13, e14])]; simp [go_sem, Act.eval]; try omega) fun Fc38 => ?_
            refine lyp Fc38 rfl HCC rfl (by omega) (want_yes Fc38 rfl (e := 170) rfl (by omega) (show _ = Value.bool false from by simp [upd, e13, e14])) (v := Value.bool false) (fun wr hwr => by simp only [execOp, (Fc38.eval 183 (by omega)).trans (show _ = Value.bool true from by simp [upd, e13, e14]), (Fc38.eval 195 (by omega)).trans (show _ = Value.bool false from by simp [upd, e13, e14])]; simp [go_sem, Act.eval]) fun Fc39 => ?_
            refine lyp Fc39 rfl HCC rfl (by omega) (wanted_none rfl) (v := Value.bool false) (fun wr hwr => by simp only [execOp, (Fc39.eval 170 (by omega)).trans (show _ = Value.bool false from by simp [upd, e13, e14]), (Fc39.eval 196 (by omega)).trans (show _ = Value.bool false from by simp [upd, e13, e14])]; simp [go_sem, Act.eval]) fun Fc40 => ?_
            refine ⟨fun _ => HCC, ?_⟩
            refine hK _ _ ?_
            clear F0 Fc1 Fc2 Fc3 Fc4 Fc5 Fc6 Fc7 Fc8 Fc9 Fc10 Fc11 Fc12 Fc13 Fc14 Fc15 Fc16 Fc17 Fc18 Fc19 Fc20 Fc21 Fc22 Fc23 Fc24 Fc25 Fc26 Fc27 Fc28 Fc29 Fc30 Fc31 Fc32 Fc33 Fc34 Fc35 Fc36 Fc37 Fc38 Fc39 Fc40 e13 e14 HCC
            simp only [Act.put, List.setIfInBounds_toArray, List.set_cons_succ, List.set_cons_zero]
            clear hpe
            go_wp2_with fail
            go_roundw
            case rel => exact ⟨i + 1, q + 1, by omega, by go_num, by rw [HWR.out]; rfl⟩
            case measure => simp [intOf]; omega
          · have hpr : p.1 < r.1 := by omega
            clear hlt2
            go_wp2_with fail
            rename_i K hK
            try rw [show ∀ a : Act, a.put none undef = a from fun _ => rfl]
            refine wp_region_mix (fun wz => wz.cell? ⟨g, i * 2, none⟩ = some (.int .i64 p.1) ∧ wz.cell? ⟨g, i * 2 + 1, none⟩ = some (.int .i64 p.2) ∧ wz.cell? ⟨g, (i + 1) * 2, none⟩ = some (.int .i64 r.1) ∧ wz.cell? ⟨g, (i + 1) * 2 + 1, none⟩ = some (.int .i64 r.2)) (fun i => i == 99) 99 (by kernel_rfl) rfl (by kernel_rfl) (by kernel_rfl) (by kernel_rfl) ?_
            refine withFrP (N := 203) rfl ?_
            intro f0 F0 hff
            have e13 : f0 13 = Value.slice (some ⟨g, 0, none⟩) ys.length capy := hff 13
            have e14 : f0 14 = Value.int .i64 ((i + 1 : Nat) : Int) := hff 14
            clear hff
            have HCC : (fun wz => wz.cell? ⟨g, i * 2, none⟩ = some (.int .i64 p.1) ∧ wz.cell? ⟨g, i * 2 + 1, none⟩ = some (.int .i64 p.2) ∧ wz.cell? ⟨g, (i + 1) * 2, none⟩ = some (.int .i64 r.1) ∧ wz.cell? ⟨g, (i + 1) * 2 + 1, none⟩ = some (.int .i64 r.2)) (({ wr with drawn := wr.drawn + 1 } : World)) := ⟨p1, p2, r1, r2⟩
            refine lyp F0 rfl HCC rfl (by omega) (wanted_none rfl) (v := Value.slice (some ⟨g, 0, none⟩) ys.length capy) (fun wr hwr => by simp only [execOp, (F0.eval 13 (by omega)).trans (show _ = Value.slice (some ⟨g, 0, none⟩) ys.length capy from by simp [upd, e13, e14])]; first | rfl | simp [go_sem]) fun Fc1 => ?_
            refine lyp Fc1 rfl HCC rfl (by omega) (wanted_none rfl) (v := Value.int .i64 ((i + 1 : Nat) : Int)) (fun wr hwr => by simp only [execOp, (Fc1.eval 14 (by omega)).trans (show _ = Value.int .i64 ((i + 1 : Nat) : Int) from by simp [upd, e13, e14])]; first | rfl | simp [go_sem]) fun Fc2 => ?_
            refine lyp Fc2 rfl HCC rfl (by omega) (wanted_none rfl) (v := Value.int .i64 ((i : Nat) : Int)) (fun wr hwr => by simp only [execOp, (Fc2.eval 159 (by omega)).trans (show _ = Value.int .i64 ((i + 1 : Nat) : Int) from by simp [upd, e13, e14])]; simp [go_sem, Act.eval]; try (rw [IntKind.wrap_i64]; omega)) fun Fc3 => ?_
            refine lyp Fc3 rfl HCC rfl (by omega) (wanted_none rfl) (v := Value.pointer (some ⟨g, i * 2, none⟩)) (fun wr hwr => by simp only [execOp, (Fc3.eval 158 (by omega)).trans (show _ = Value.slice (some ⟨g, 0, none⟩) ys.length capy from by simp [upd, e13, e14]), (Fc3.eval 160 (by omega)).trans (show _ = Value.int .i64 ((i : Nat) : Int) from by simp [upd, e13, e14])]; simp only [Sem.run_bind, Sem.run_pure, Result.andThen_ok, idx_run 45 37 2 Try.underlying45 isz37 wr g 0 ys.length capy i (by omega), Nat.zero_add, Nat.mul_one]; try rfl) fun Fc4 => ?_
            refine lyp Fc4 rfl HCC rfl (by omega) (wanted_none rfl) (v := Value.pointer (some ⟨g, i * 2, none⟩)) (fun wr hwr => by simp only [execOp, (Fc4.eval 161 (by omega)).trans (show _ = Value.pointer (some ⟨g, i * 2, none⟩) from by simp [upd, e13, e14])]; simp [go_sem]) fun Fc5 => ?_
            refine lyp Fc5 rfl HCC rfl (by omega) (wanted_none rfl) (v := Value.int .i64 p.1) (fun wr hwr => by simp only [execOp, (Fc5.eval 162 (by omega)).trans (show _ = Value.pointer (some ⟨g, i * 2, none⟩) from by simp [upd, e13, e14])]; simp [go_sem, hwr.1]) fun Fc6 => ?_
            refine lyp Fc6 rfl HCC rfl (by omega) (wanted_none rfl) (v := Value.slice (some ⟨g, 0, none⟩) ys.length capy) (fun wr hwr => by simp only [execOp, (Fc6.eval 13 (by omega)).trans (show _ = Value.slice (some ⟨g, 0, none⟩) ys.length capy from by simp [upd, e13, e14])]; first | rfl | simp [go_sem]) fun Fc7 => ?_
            refine lyp Fc7 rfl HCC rfl (by omega) (wanted_none rfl) (v := Value.int .i64 ((i + 1 : Nat) : Int)) (fun wr hwr => by simp only [execOp, (Fc7.eval 14 (by omega)).trans (show _ = Value.int .i64 ((i + 1 : Nat) : Int) from by simp [upd, e13, e14])]; first | rfl | simp [go_sem]) fun Fc8 => ?_
            refine lyp Fc8 rfl HCC rfl (by omega) (wanted_none rfl) (v := Value.pointer (some ⟨g, (i + 1) * 2, none⟩)) (fun wr hwr => by simp only [execOp, (Fc8.eval 164 (by omega)).trans (show _ = Value.slice (some ⟨g, 0, none⟩) ys.length capy from by simp [upd, e13, e14]), (Fc8.eval 165 (by omega)).trans (show _ = Value.int .i64 ((i + 1 : Nat) : Int) from by simp [upd, e13, e14])]; simp only [Sem.run_bind, Sem.run_pure, Result.andThen_ok, idx_run 45 37 2 Try.underlying45 isz37 wr g 0 ys.length capy (i + 1) hjl, Nat.zero_add, Nat.mul_one]; try rfl) fun Fc9 => ?_
            refine lyp Fc9 rfl HCC rfl (by omega) (wanted_none rfl) (v := Value.pointer (some ⟨g, (i + 1) * 2, none⟩)) (fun wr hwr => by simp only [execOp, (Fc9.eval 166 (by omega)).trans (show _ = Value.pointer (some ⟨g, (i + 1) * 2, none⟩) from by simp [upd, e13, e14])]; simp [go_sem]) fun Fc10 => ?_
            refine lyp Fc10 rfl HCC rfl (by omega) (wanted_none rfl) (v := Value.int .i64 r.1) (fun wr hwr => by simp only [execOp, (Fc10.eval 167 (by omega)).trans (show _ = Value.pointer (some ⟨g, (i + 1) * 2, none⟩) from by simp [upd, e13, e14])]; simp [go_sem, hwr.2.2.1]) fun Fc11 => ?_
            refine lyp Fc11 rfl HCC rfl (by omega) (wanted_none rfl) (v := Value.bool false) (fun wr hwr => by simp only [execOp, (Fc11.eval 163 (by omega)).trans (show _ = Value.int .i64 p.1 from by simp [upd, e13, e14]), (Fc11.eval 168 (by omega)).trans (show _ = Value.int .i64 r.1 from by simp [upd, e13, e14])]; simp [go_sem, Act.eval]; try omega) fun Fc12 => ?_
            refine lyp Fc12 rfl HCC rfl (by omega) (wanted_none rfl) (v := Value.bool false) (fun wr hwr => by simp only [execOp, (Fc12.eval 169 (by omega)).trans (show _ = Value.bool false from by simp [upd, e13, e14])]; first | rfl | simp [go_sem]) fun Fc13 => ?_
            refine lyp Fc13 rfl HCC rfl (by omega) (want_yes Fc13 rfl (e := 170) rfl (by omega) (show _ = Value.bool false from by simp [upd, e13, e14])) (v := Value.slice (some ⟨g, 0, none⟩) ys.length capy) (fun wr hwr => by simp only [execOp, (Fc13.eval 13 (by omega)).trans (show _ = Value.slice (some ⟨g, 0, none⟩) ys.length capy from by simp [upd, e13, e14])]; first | rfl | simp [go_sem]) fun Fc14 => ?_
            refine lyp Fc14 rfl HCC rfl (by omega) (want_yes Fc14 rfl (e := 170) rfl (by omega) (show _ = Value.bool false from by simp [upd, e13, e14])) (v := Value.int .i64 ((i + 1 : Nat) : Int)) (fun wr hwr => by simp only [execOp, (Fc14.eval 14 (by omega)).trans (show _ = Value.int .i64 ((i + 1 : Nat) : Int) from by simp [upd, e13, e14])]; first | rfl | simp [go_sem]) fun Fc15 => ?_
            refine lyp Fc15 rfl HCC rfl (by omega) (want_yes Fc15 rfl (e := 170) rfl (by omega) (show _ = Value.bool false from by simp [upd, e13, e14])) (v := Value.int .i64 ((i : Nat) : Int)) (fun wr hwr => by simp only [execOp, (Fc15.eval 172 (by omega)).trans (show _ = Value.int .i64 ((i + 1 : Nat) : Int) from by simp [upd, e13, e14])]; simp [go_sem, Act.eval]; try (rw [IntKind.wrap_i64]; omega)) fun Fc16 => ?_
            refine lyp Fc16 rfl HCC rfl (by omega) (want_yes Fc16 rfl (e := 170) rfl (by omega) (show _ = Value.bool false from by simp [upd, e13, e14])) (v := Value.pointer (some ⟨g, i * 2, none⟩)) (fun wr hwr => by simp only [execOp, (Fc16.eval 171 (by omega)).trans (show _ = Value.slice (some ⟨g, 0, none⟩) ys.length capy from by simp [upd, e13, e14]), (Fc16.eval 173 (by omega)).trans (show _ = Value.int .i64 ((i : Nat) : Int) from by simp [upd, e13, e14])]; simp only [Sem.run_bind, Sem.run_pure, Result.andThen_ok, idx_run 45 37 2 Try.underlying45 isz37 wr g 0 ys.length capy i (by omega), Nat.zero_add, Nat.mul_one]; try rfl) fun Fc17 => ?_
            refine lyp Fc17 rfl HCC rfl (by omega) (want_yes Fc17 rfl (e := 170) rfl (by omega) (show _ = Value.bool false from by simp [upd, e13, e14])) (v := Value.pointer (some ⟨g, i * 2, none⟩)) (fun wr hwr => by simp only [execOp, (Fc17.eval 174 (by omega)).trans (show _ = Value.pointer (some ⟨g, i * 2, none⟩) from by simp [upd, e13, e14])]; simp [go_sem]) fun Fc18 => ?_
            refine lyp Fc18 rfl HCC rfl (by omega) (want_yes Fc18 rfl (e := 170) rfl (by omega) (show _ = Value.bool false from by simp [upd, e13, e14])) (v := Value.int .i64 p.1) (fun wr hwr => by simp only [execOp, (Fc18.eval 175 (by omega)).trans (show _ = Value.pointer (some ⟨g, i * 2, none⟩) from by simp [upd, e13, e14])]; simp [go_sem, hwr.1]) fun Fc19 => ?_
            refine lyp Fc19 rfl HCC rfl (by omega) (want_yes Fc19 rfl (e := 170) rfl (by omega) (show _ = Value.bool false from by simp [upd, e13, e14])) (v := Value.slice (some ⟨g, 0, none⟩) ys.length capy) (fun wr hwr => by simp only [execOp, (Fc19.eval 13 (by omega)).trans (show _ = Value.slice (some ⟨g, 0, none⟩) ys.length capy from by simp [upd, e13, e14])]; first | rfl | simp [go_sem]) fun Fc20 => ?_
            refine lyp Fc20 rfl HCC rfl (by omega) (want_yes Fc20 rfl (e := 170) rfl (by omega) (show _ = Value.bool false from by simp [upd, e13, e14])) (v := Value.int .i64 ((i + 1 : Nat) : Int)) (fun wr hwr => by simp only [execOp, (Fc20.eval 14 (by omega)).trans (show _ = Value.int .i64 ((i + 1 : Nat) : Int) from by simp [upd, e13, e14])]; first | rfl | simp [go_sem]) fun Fc21 => ?_
            refine lyp Fc21 rfl HCC rfl (by omega) (want_yes Fc21 rfl (e := 170) rfl (by omega) (show _ = Value.bool false from by simp [upd, e13, e14])) (v := Value.pointer (some ⟨g, (i + 1) * 2, none⟩)) (fun wr hwr => by simp only [execOp, (Fc21.eval 177 (by omega)).trans (show _ = Value.slice (some ⟨g, 0, none⟩) ys.length capy from by simp [upd, e13, e14]), (Fc21.eval 178 (by omega)).trans (show _ = Value.int .i64 ((i + 1 : Nat) : Int) from by simp [upd, e13, e14])]; simp only [Sem.run_bind, Sem.run_pure, Result.andThen_ok, idx_run 45 37 2 Try.underlying45 isz37 wr g 0 ys.length capy (i + 1) hjl, Nat.zero_add, Nat.mul_one]; try rfl) fun Fc22 => ?_
            refine lyp Fc22 rfl HCC rfl (by omega) (want_yes Fc22 rfl (e := 170) rfl (by omega) (show _ = Value.bool false from by simp [upd, e13, e14])) (v := Value.pointer (some ⟨g, (i + 1) * 2, none⟩)) (fun wr hwr => by simp only [execOp, (Fc22.eval 179 (by omega)).trans (show _ = Value.pointer (some ⟨g, (i + 1) * 2, none⟩) from by simp [upd, e13, e14])]; simp [go_sem]) fun Fc23 => ?_
            refine lyp Fc23 rfl HCC rfl (by omega) (want_yes Fc23 rfl (e := 170) rfl (by omega) (show _ = Value.bool false from by simp [upd, e13, e14])) (v := Value.int .i64 r.1) (fun wr hwr => by simp only [execOp, (Fc23.eval 180 (by omega)).trans (show _ = Value.pointer (some ⟨g, (i + 1) * 2, none⟩) from by simp [upd, e13, e14])]; simp [go_sem, hwr.2.2.1]) fun Fc24 => ?_
            refine lyp Fc24 rfl HCC rfl (by omega) (want_yes Fc24 rfl (e := 170) rfl (by omega) (show _ = Value.bool false from by simp [upd, e13, e14])) (v := Value.bool false) (fun wr hwr => by simp only [execOp, (Fc24.eval 176 (by omega)).trans (show _ = Value.int .i64 p.1 from by simp [upd, e13, e14]), (Fc24.eval 181 (by omega)).trans (show _ = Value.int .i64 r.1 from by simp [upd, e13, e14])]; simp [go_sem, Act.eval]; try omega) fun Fc25 => ?_
            refine lyp Fc25 rfl HCC rfl (by omega) (want_yes Fc25 rfl (e := 170) rfl (by omega) (show _ = Value.bool false from by simp [upd, e13, e14])) (v := Value.bool false) (fun wr hwr => by simp only [execOp, (Fc25.eval 182 (by omega)).trans (show _ = Value.bool false from by simp [upd, e13, e14])]; first | rfl | simp [go_sem]) fun Fc26 => ?_
            refine lnp Fc26 rfl HCC rfl (by omega) (want_no Fc26 rfl (e := 183) rfl (by omega) (show _ = Value.bool false from by simp [upd, e13, e14]) (by decide)) fun Fc27 => ?_
            refine lnp Fc27 rfl HCC rfl (by omega) (want_no Fc27 rfl (e := 183) rfl (by omega) (show _ = Value.bool false from by simp [upd, e13, e14]) (by decide)) fun Fc28 => ?_
            refine lnp Fc28 rfl HCC rfl (by omega) (want_no Fc28 rfl (e := 183) rfl (by omega) (show _ = Value.bool false from by simp [upd, e13, e14]) (by decide)) fun Fc29 => ?_
            refine lnp Fc29 rfl HCC rfl (by omega) (want_no Fc29 rfl (e := 183) rfl (by omega) (show _ = Value.bool false from by simp [upd, e13, e14]) (by decide)) fun Fc30 => ?_
            refine lnp Fc30 rfl HCC rfl (by omega) (want_no Fc30 rfl (e := 183) rfl (by omega) (show _ = Value.bool false from by simp [upd, e13, e14]) (by decide)) fun Fc31 => ?_
            refine lnp Fc31 rfl HCC rfl (by omega) (want_no Fc31 rfl (e := 183) rfl (by omega) (show _ = Value.bool false from by simp [upd, e13, e14]) (by decide)) fun Fc32 => ?_
            refine lnp Fc32 rfl HCC rfl (by omega) (want_no Fc32 rfl (e := 183) rfl (by omega) (show _ = Value.bool false from by simp [upd, e13, e14]) (by decide)) fun Fc33 => ?_
            refine lnp Fc33 rfl HCC rfl (by omega) (want_no Fc33 rfl (e := 183) rfl (by omega) (show _ = Value.bool false from by simp [upd, e13, e14]) (by decide)) fun Fc34 => ?_
            refine lnp Fc34 rfl HCC rfl (by omega) (want_no Fc34 rfl (e := 183) rfl (by omega) (show _ = Value.bool false from by simp [upd, e13, e14]) (by decide)) fun Fc35 => ?_
            refine lnp Fc35 rfl HCC rfl (by omega) (want_no Fc35 rfl (e := 183) rfl (by omega) (show _ = Value.bool false from by simp [upd, e13, e14]) (by decide)) fun Fc36 => ?_
            refine lnp Fc36 rfl HCC rfl (by omega) (want_no Fc36 rfl (e := 183) rfl (by omega) (show _ = Value.bool false from by simp [upd, e13, e14]) (by decide)) fun Fc37 => ?_
            refine lnp Fc37 rfl HCC rfl (by omega) (want_no Fc37 rfl (e := 183) rfl (by omega) (show _ = Value.bool false from by simp [upd, e13, e14]) (by decide)) fun Fc38 => ?_
            refine lyp Fc38 rfl HCC rfl (by omega) (want_yes Fc38 rfl (e := 170) rfl (by omega) (show _ = Value.bool false from by simp [upd, e13, e14])) (v := Value.bool false) (fun wr hwr => by simp only [execOp, (Fc38.eval 183 (by omega)).trans (show _ = Value.bool false from by simp [upd, e13, e14])]; simp [go_sem, Act.eval]) fun Fc39 => ?_
            refine lyp Fc39 rfl HCC rfl (by omega) (wanted_none rfl) (v := Value.bool false) (fun wr hwr => by simp only [execOp, (Fc39.eval 170 (by omega)).trans (show _ = Value.bool false from by simp [upd, e13, e14]), (Fc39.eval 196 (by omega)).trans (show _ = Value.bool false from by simp [upd, e13, e14])]; simp [go_sem, Act.eval]) fun Fc40 => ?_
            refine ⟨fun _ => HCC, ?_⟩
            refine hK _ _ ?_
            clear F0 Fc1 Fc2 Fc3 Fc4 Fc5 Fc6 Fc7 Fc8 Fc9 Fc10 Fc11 Fc12 Fc13 Fc14 Fc15 Fc16 Fc17 Fc18 Fc19 Fc20 Fc21 Fc22 Fc23 Fc24 Fc25 Fc26 Fc27 Fc28 Fc29 Fc30 Fc31 Fc32 Fc33 Fc34 Fc35 Fc36 Fc37 Fc38 Fc39 Fc40 e13 e14 HCC
            simp only [Act.put, List.setIfInBounds_toArray, List.set_cons_succ, List.set_cons_zero]
            go_wp2_with fail
            go_roundw
            case rel => exact ⟨i + 1, q + 1, by omega, by go_num, by rw [HWR.out]; rfl⟩
            case measure => simp [intOf]; omega
        · have HF : Hid (Below w.heap.size w wr) := show Below w.heap.size w wr from by rw [hwr]; exact below_drewN HB5.out q
          have hlb : ((ys.length : Int) == (m : Int)) = true := by have := HYL.out; simp [this]
          clear hwr
          go_wp2_with fail
          go_ret
          exact ⟨rfl, HF.out⟩
end Go.Proofs.Ytgjibihhchojoaa
