import Derived.Test.YtadfmnlkfcigoaaOr0
import Derived.Test.YtadfmnlkfcigoaaArgs
namespace Go.Proofs.Ytadfmnlkfcigoaa
open Go.RowKit Go.PlainAid
set_option linter.unusedVariables false
set_option linter.unusedSimpArgs false
set_option maxRecDepth 100000 in
set_option maxHeartbeats 12800000 in
theorem order_law (z0 z1 : Int) (h0 : In64 z0) (h1 : In64 z1) (ao : Option Addr) (N cap : Nat) (os : List Int) (w : World) (hl : os.length = N) (hnc : N ≤ cap) (hcm : cap ≤ maxLen) (hok : ∀ o ∈ os, In64 o)
    (hat : 0 < N → ∃ b off, ao = some ⟨b, off, none⟩ ∧ ∀ i o, os[i]? = some o → RowAt w b (off + i * 1) [Value.int .i64 o]) :
    Calls Try.prog 4 #[.int .i64 z0, .int .i64 z1, .slice ao N cap] w fun e w' => e = .returned (.bool true) ∧ Below w.heap.size w w' := by
  unfold maxLen at hcm
  by_cases hN : 200 < N
  · go_enter Try.func4, Try.ntmps4
    go_wp2_with fail
    go_ret
    exact ⟨rfl, Below.refl _ _⟩
  have HAT : Hid _ := hat
  have HOK : Hid _ := hok
  have HL0 : Hid (os.length = N) := hl
  clear hat hok hl
  go_enter Try.func4, Try.ntmps4
  go_wp2_with fail
  refine Calls.mono (alive_any w) ?_
  rintro e w1 ⟨rfl, hb1⟩
  have HB1 : Hid _ := hb1
  clear hb1
  go_wp2_with fail
  refine Calls.mono (slot_any z0 64 w1 (by omega) (by omega) h0) ?_
  rintro e w2 ⟨s, hs0, hs1, rfl, hw2⟩
  replace hw2 := hw2.symm
  subst hw2
  obtain ⟨n, hn⟩ : ∃ n, n = 1 + s := ⟨_, rfl⟩
  have hn2 : 1 ≤ n := by omega
  have hn16 : n ≤ 64 := by omega
  go_wp2_with fail
  rw [← hn]
  clear hn hs0 hs1
  refine Calls.mono (slot_any z1 16 w1 (by omega) (by omega) h1) ?_
  rintro e w2 ⟨s2, hs0, hs1, rfl, hw2⟩
  replace hw2 := hw2.symm
  subst hw2
  obtain ⟨rm, hrm⟩ : ∃ rm : Nat, (rm : Int) = 1 + s2 := ⟨(1 + s2).toNat, by omega⟩
  have hp1 : 1 ≤ rm := by omega
  have hp4 : rm ≤ 16 := by omega
  go_wp2_with fail
  rw [← hrm]
  clear hrm hs0 hs1
  refine Calls.mono (new_ok 0 2 n rm w1 (by decide) ⟨hn2, hn16⟩ ⟨hp1, hp4⟩ (by decide)) ?_
  rintro e w3 ⟨cb, ms, mp, hs, rfl, hM3, hb3, hlo3⟩
  obtain ⟨a, ha⟩ : ∃ a : CA, a = ⟨cb, ms, mp, hs, 0, 2, n, rm⟩ := ⟨_, rfl⟩
  rw [← ha] at hM3 hlo3
  have hcb : cb = a.cb := by rw [ha]
  have HA3 : Hid (a.me = 0 ∧ a.rep = 2 ∧ a.ses = n) := by rw [ha]; exact ⟨rfl, rfl, rfl⟩
  subst hcb
  clear ha
  have HM3 : Hid (CM a cx0 w3) := hM3
  have HLO : Hid (∀ k, a.own k → w.heap.size ≤ k) := fun k hk => Nat.le_trans HB1.out.size (hlo3 k hk)
  have HB3 : Hid (Below w.heap.size w w3) := HB1.out.trans (hb3.mono HB1.out.size)
  clear hM3 hlo3 hb3 HB1
  go_wp2_with fail
  refine Calls.mono (num_any 0 w3) ?_
  rintro e w4 ⟨rfl, hw4⟩
  replace hw4 := hw4.symm
  subst hw4
  go_wp2_with fail
  obtain ⟨Z, hZ⟩ : ∃ Z : Array Value, Z = Array.replicate 64 (.int .i64 0) := ⟨_, rfl⟩
  obtain ⟨X0, hX0⟩ : ∃ X0, X0 = w3.alloc (.cells Z 44) := ⟨_, rfl⟩
  obtain ⟨lb, hlb⟩ : ∃ lb, lb = w3.heap.size := ⟨_, rfl⟩
  have hbX : Below w3.heap.size w3 X0 := by rw [hX0]; exact (Below.refl _ _).alloc (Nat.le_refl _) _
  have H0 : Hid (OrdS a lb Z cx0 0 w X0) := show OrdS a lb Z cx0 0 w X0 from by
    refine ⟨HM3.out.more hbX, ?_, ?_, ?_, ?_, HLO.out, ?_, ?_, ?_, ?_, HB3.out.trans (hbX.mono HB3.out.size)⟩
    · rw [hX0, hlb]; exact heap_alloc_new w3 _
    · rw [hZ]; simp
    · intro j hj
      rw [hZ, Array.getElem?_replicate, if_pos hj]
      rfl
    · intro hh
      have := HM3.out.lt hh
      omega
    · rw [hlb]; exact HB3.out.size
    · intro s
      exact ⟨Int.le_refl _, Int.le_refl _⟩
    · intro s i h1 h2
      have : i ≤ 0 := h2
      omega
    · intro c hc
      cases hc
  rw [show (#[Value.int .i64 0, Value.int .i64 0, Value.int .i64 0, Value.int .i64 0, Value.int .i64 0, Value.int .i64 0, Value.int .i64 0, Value.int .i64 0, Value.int .i64 0, Value.int .i64 0, Value.int .i64 0, Value.int .i64 0, Value.int .i64 0, Value.int .i64 0, Value.int .i64 0, Value.int .i64 0, Value.int .i64 0, Value.int .i64 0, Value.int .i64 0, Value.int .i64 0, Value.int .i64 0, Value.int .i64 0, Value.int .i64 0, Value.int .i64 0, Value.int .i64 0, Value.int .i64 0, Value.int .i64 0, Value.int .i64 0, Value.int .i64 0, Value.int .i64 0, Value.int .i64 0, Value.int .i64 0, Value.int .i64 0, Value.int .i64 0, Value.int .i64 0, Value.int .i64 0, Value.int .i64 0, Value.int .i64 0, Value.int .i64 0, Value.int .i64 0, Value.int .i64 0, Value.int .i64 0, Value.int .i64 0, Value.int .i64 0, Value.int .i64 0, Value.int .i64 0, Value.int .i64 0, Value.int .i64 0, Value.int .i64 0, Value.int .i64 0, Value.int .i64 0, Value.int .i64 0, Value.int .i64 0, Value.int .i64 0, Value.int .i64 0, Value.int .i64 0, Value.int .i64 0, Value.int .i64 0, Value.int .i64 0, Value.int .i64 0, Value.int .i64 0, Value.int .i64 0, Value.int .i64 0, Value.int .i64 0] : Array Value) = Z from by rw [hZ]; rfl, ← hX0, ← hlb]
  clear hX0 hZ hbX HM3 HB3 HLO hlb
  obtain ⟨m, hm⟩ : ∃ m, m = Int.tdiv (n + 1) 2 := ⟨_, rfl⟩
  have hme : m = (n + 1) / 2 := by rw [hm]; exact Int.tdiv_eq_ediv_of_nonneg (by omega)
  have hm1 : 1 ≤ m := by omega
  have hm2 : 2 * m ≤ n + 1 := by omega
  have hmw : IntKind.i64.wrap (Int.tdiv (n + 1) 2) = m := by rw [← hm, IntKind.wrap_i64]; omega
  clear hm hme
  go_loopw [12] (fun s12 wr => ∃ (k : Nat) (C : Array Value) (x : CX), k ≤ N ∧ s12 = .int .i64 k ∧ OrdS a lb C x k w wr) (fun s12 _ => N - (intOf s12).toNat)
  case atStart => exact ⟨0, Z, cx0, by omega, rfl, H0.out⟩
  case round =>
    obtain ⟨k, C, x, hk, rfl, hO⟩ := hrel
    clear H0
    have HO : Hid (OrdS a lb C x k w wr) := hO
    clear hO
    by_cases hlt : k < N
    · have hkb : k < os.length := by have := HL0.out; omega
      obtain ⟨v, hnm⟩ : ∃ v, v = os[k] := ⟨_, rfl⟩
      have hvb : In64 v := HOK.out v (by rw [hnm]; exact List.getElem_mem _)
      obtain ⟨b, off, hao, hcell⟩ := HAT.out (by omega)
      subst hao
      have hrow := hcell k v (by rw [hnm]; exact List.getElem?_eq_getElem hkb)
      rw [Nat.mul_one] at hrow
      have HI : Hid (∀ w', Below w.heap.size w w' → w'.cell? ⟨b, off + k, none⟩ = some (.int .i64 v)) := fun w' h => hrow.below h (hrow.lt (by simp)) 0 _ rfl
      clear hrow hcell hkb hnm HAT
      have hw7 : IntKind.i64.wrap ((k : Int) * 7) = (k : Int) * 7 := by rw [IntKind.wrap_i64]; omega
      unfold In64 at hvb
      go_wp2_with fail
      refine Calls.mono (slot_any ((k : Int) * 7) m wr (by omega) (by omega) ⟨by omega, by omega⟩) ?_
      rintro e wz ⟨sl, hsl0, hsl1, rfl, hwz⟩
      replace hwz := hwz.symm
      subst hwz
      obtain ⟨j, hj⟩ : ∃ j : Nat, (j : Int) = 2 * sl := ⟨(2 * sl).toNat, by omega⟩
      have hj64 : j < 64 := by omega
      have HMI : Hid (mine a.me a.rep a.ses j) := show mine a.me a.rep a.ses j from by
        rw [HA3.out.1, HA3.out.2.1, HA3.out.2.2]
        refine ⟨by omega, by omega, ?_⟩
        rw [hj, Int.mul_tmod_right]
      have cs := HI.out _ HO.out.bl
      obtain ⟨l, hl⟩ : ∃ l, l = x.la j := ⟨_, rfl⟩
      have HLD : Hid (l = x.la j) := hl
      have hlbd : 0 ≤ l ∧ l ≤ 200 := by have := HO.out.bd j; omega
      have HBG : Hid _ := HO.out.begin (by omega) j v HMI.out ⟨by omega, by omega⟩ wr HO.out.m HO.out.b HO.out.bl
      rw [← hl] at HBG
      clear hl hsl0 hsl1
      go_wp2_with fail
      rw [← hj]
      refine Calls.mono HBG.out ?_
      rintro e w5 ⟨rfl, hM5, hB5, hb5⟩
      have HM5 : Hid (CM a (begX a x j v) w5) := hM5
      have HB5 : Hid (Blk w5 lb C 44) := hB5
      have HBL5 : Hid (Below w.heap.size w w5) := hb5
      clear hM5 hB5 hb5 HBG cs hj
      obtain ⟨X, hX⟩ : ∃ X, X = w5.alloc (.cells #[.int .i64 0, .int .i64 0, .int .i64 0, .int .i64 0] 36) := ⟨_, rfl⟩
      have hb5X : Below w5.heap.size w5 X := by rw [hX]; exact (Below.refl _ _).alloc (Nat.le_refl _) _
      have HMX : Hid (CM a (begX a x j v) X) := HM5.out.more hb5X
      have HB : Hid (Blk X lb C 44) := HB5.out.below hb5X HB5.out.lt
      have HBX : Hid (Below w.heap.size w X) := HBL5.out.trans (hb5X.mono HBL5.out.size)
      have HCL : Hid (X.cell? ⟨lb, j, none⟩ = some (.int .i64 l)) := show X.cell? ⟨lb, j, none⟩ = some (.int .i64 l) from by rw [HLD.out]; exact HO.out.cellAt HB.out j hj64
      clear hb5X HM5 HB5 HBL5
      by_cases hv : v = l + 1
      · have hf : ordF l v = 0 := by unfold ordF; rw [if_neg (by omega), if_neg (by omega), if_pos hv]
        have hgt : ¬ l + 1 < v := by omega
        rw [hf]
        clear hf
        go_wp2_with fail
        rw [← hX]
        clear hX
        rename_i K hK
        try rw [show ∀ a : Act, a.put none undef = a from fun _ => rfl]
        refine wp_region_mix (fun wq => wq.cell? ⟨b, off + k, none⟩ = some (.int .i64 v) ∧ wq.cell? ⟨lb, j, none⟩ = some (.int .i64 l)) (fun i => i == 1 || i == 15 || i == 99) 99 (by kernel_rfl) rfl (by kernel_rfl) (by kernel_rfl) (by kernel_rfl) ?_
        refine withFrP (N := 118) rfl ?_
        intro f0 F0 hff
        have e2 : f0 2 = Value.slice (some ⟨b, off, none⟩) N cap := hff 2
        have e11 : f0 11 = Value.pointer (some ⟨lb, 0, none⟩) := hff 11
        have e12 : f0 12 = Value.int .i64 (k : Nat) := hff 12
        have e13 : f0 13 = Value.int .i64 (j : Nat) := hff 13
        have e16 : f0 16 = Value.int .i64 0 := hff 16
        clear hff
        have HCC : (fun wq => wq.cell? ⟨b, off + k, none⟩ = some (.int .i64 v) ∧ wq.cell? ⟨lb, j, none⟩ = some (.int .i64 l)) (({ X with drawn := X.drawn + 1 } : World)) := ⟨HI.out _ (Below.drew HBX.out), HCL.out⟩
        refine lyp F0 rfl HCC rfl (by omega) (wanted_none rfl) (v := Value.int .i64 0) (fun wr hwr => by simp only [execOp, (F0.eval 16 (by omega)).trans (show _ = Value.int .i64 0 from by simp [upd, e2, e11, e12, e13, e16])]; first | rfl | simp [go_sem]) fun F1 => ?_
        refine lcp F1 rfl HCC rfl (by omega) (wanted_none rfl) (g := 11) (args := #[Value.int .i64 0]) (by simp only [execOp, resolve, invoke, List.map_toArray, List.map_cons, List.map_nil, (F1.eval 68 (by omega)).trans (show _ = Value.int .i64 0 from by simp [upd, e2, e11, e12, e13, e16])]; simp [go_sem, Act.eval]) (num_any 0 _) ?_
        rintro e v3 ⟨rfl, rfl⟩
        refine ⟨_, rfl, fun F2 => ?_⟩
        refine lyp F2 rfl HCC rfl (by omega) (wanted_none rfl) (v := Value.bool true) (fun wr hwr => by simp only [execOp, (F2.eval 69 (by omega)).trans (show _ = Value.int .i64 0 from by simp [upd, e2, e11, e12, e13, e16])]; simp [go_sem, Act.eval]) fun F3 => ?_
        refine lyp F3 rfl HCC rfl (by omega) (wanted_none rfl) (v := Value.slice (some ⟨b, off, none⟩) N cap) (fun wr hwr => by simp only [execOp, (F3.eval 2 (by omega)).trans (show _ = Value.slice (some ⟨b, off, none⟩) N cap from by simp [upd, e2, e11, e12, e13, e16])]; first | rfl | simp [go_sem]) fun F4 => ?_
        refine lyp F4 rfl HCC rfl (by omega) (wanted_none rfl) (v := Value.int .i64 (k : Nat)) (fun wr hwr => by simp only [execOp, (F4.eval 12 (by omega)).trans (show _ = Value.int .i64 (k : Nat) from by simp [upd, e2, e11, e12, e13, e16])]; first | rfl | simp [go_sem]) fun F5 => ?_
        refine lyp F5 rfl HCC rfl (by omega) (wanted_none rfl) (v := Value.pointer (some ⟨b, off + k, none⟩)) (fun wr hwr => by simp only [execOp, (F5.eval 71 (by omega)).trans (show _ = Value.slice (some ⟨b, off, none⟩) N cap from by simp [upd, e2, e11, e12, e13, e16]), (F5.eval 72 (by omega)).trans (show _ = Value.int .i64 (k : Nat) from by simp [upd, e2, e11, e12, e13, e16])]; simp only [Sem.run_bind, Sem.run_pure, Result.andThen_ok, idx_run 43 3 1 Try.underlying43 isz3 wr b off N cap k hlt, Nat.zero_add, Nat.mul_one]; try rfl) fun F6 => ?_
        refine lyp F6 rfl HCC rfl (by omega) (wanted_none rfl) (v := Value.int .i64 v) (fun wr hwr => by simp only [execOp, (F6.eval 73 (by omega)).trans (show _ = Value.pointer (some ⟨b, off + k, none⟩) from by simp [upd, e2, e11, e12, e13, e16])]; simp [go_sem, hwr.1]) fun F7 => ?_
        refine lyp F7 rfl HCC rfl (by omega) (wanted_none rfl) (v := Value.int .i64 (j : Nat)) (fun wr hwr => by simp only [execOp, (F7.eval 13 (by omega)).trans (show _ = Value.int .i64 (j : Nat) from by simp [upd, e2, e11, e12, e13, e16])]; first | rfl | simp [go_sem]) fun F8 => ?_
        refine lyp F8 rfl HCC rfl (by omega) (wanted_none rfl) (v := Value.pointer (some ⟨lb, j, none⟩)) (fun wr hwr => by simp only [execOp, (F8.eval 11 (by omega)).trans (show _ = Value.pointer (some ⟨lb, 0, none⟩) from by simp [upd, e2, e11, e12, e13, e16]), (F8.eval 75 (by omega)).trans (show _ = Value.int .i64 (j : Nat) from by simp [upd, e2, e11, e12, e13, e16])]; simp only [Sem.run_bind, Sem.run_pure, Result.andThen_ok, idx44 wr lb 0 j hj64, Nat.zero_add, Nat.mul_one]; try rfl) fun F9 => ?_
        refine lyp F9 rfl HCC rfl (by omega) (wanted_none rfl) (v := Value.int .i64 l) (fun wr hwr => by simp only [execOp, (F9.eval 76 (by omega)).trans (show _ = Value.pointer (some ⟨lb, j, none⟩) from by simp [upd, e2, e11, e12, e13, e16])]; simp [go_sem, hwr.2]) fun F10 => ?_
        refine lyp F10 rfl HCC rfl (by omega) (wanted_none rfl) (v := Value.int .i64 (l + 1)) (fun wr hwr => by simp only [execOp, (F10.eval 77 (by omega)).trans (show _ = Value.int .i64 l from by simp [upd, e2, e11, e12, e13, e16])]; simp [go_sem, Act.eval, show IntKind.i64.wrap (l + 1) = l + 1 from by rw [IntKind.wrap_i64]; omega]) fun F11 => ?_
        refine lyp F11 rfl HCC rfl (by omega) (wanted_none rfl) (v := Value.bool true) (fun wr hwr => by simp only [execOp, (F11.eval 74 (by omega)).trans (show _ = Value.int .i64 v from by simp [upd, e2, e11, e12, e13, e16]), (F11.eval 78 (by omega)).trans (show _ = Value.int .i64 (l + 1) from by simp [upd, e2, e11, e12, e13, e16])]; simp [go_sem, Act.eval, hv]) fun F12 => ?_
        refine lyp F12 rfl HCC rfl (by omega) (wanted_none rfl) (v := Value.bool false) (fun wr hwr => by simp only [execOp, (F12.eval 70 (by omega)).trans (show _ = Value.bool true from by simp [upd, e2, e11, e12, e13, e16]), (F12.eval 79 (by omega)).trans (show _ = Value.bool true from by simp [upd, e2, e11, e12, e13, e16])]; simp [go_sem, Act.eval]) fun F13 => ?_
        refine lyp F13 rfl HCC rfl (by omega) (wanted_none rfl) (v := Value.bool false) (fun wr hwr => by simp only [execOp, (F13.eval 80 (by omega)).trans (show _ = Value.bool false from by simp [upd, e2, e11, e12, e13, e16])]; first | rfl | simp [go_sem]) fun F14 => ?_
        refine lyp F14 rfl HCC rfl (by omega) (want_yes F14 rfl (e := 81) rfl (by omega) (show _ = Value.bool false from by simp [upd, e2, e11, e12, e13, e16])) (v := Value.int .i64 0) (fun wr hwr => by simp only [execOp, (F14.eval 16 (by omega)).trans (show _ = Value.int .i64 0 from by simp [upd, e2, e11, e12, e13, e16])]; first | rfl | simp [go_sem]) fun F15 => ?_
        refine lcp F15 rfl HCC rfl (by omega) (want_yes F15 rfl (e := 81) rfl (by omega) (show _ = Value.bool false from by simp [upd, e2, e11, e12, e13, e16])) (g := 11) (args := #[Value.int .i64 0]) (by simp only [execOp, resolve, invoke, List.map_toArray, List.map_cons, List.map_nil, (F15.eval 82 (by omega)).trans (show _ = Value.int .i64 0 from by simp [upd, e2, e11, e12, e13, e16])]; simp [go_sem, Act.eval]) (num_any 0 _) ?_
        rintro e v4 ⟨rfl, rfl⟩
        refine ⟨_, rfl, fun F16 => ?_⟩
        refine lyp F16 rfl HCC rfl (by omega) (want_yes F16 rfl (e := 81) rfl (by omega) (show _ = Value.bool false from by simp [upd, e2, e11, e12, e13, e16])) (v := Value.bool false) (fun wr hwr => by simp only [execOp, (F16.eval 83 (by omega)).trans (show _ = Value.int .i64 0 from by simp [upd, e2, e11, e12, e13, e16])]; simp [go_sem, Act.eval]) fun F17 => ?_
        refine lyp F17 rfl HCC rfl (by omega) (want_yes F17 rfl (e := 81) rfl (by omega) (show _ = Value.bool false from by simp [upd, e2, e11, e12, e13, e16])) (v := Value.slice (some ⟨b, off, none⟩) N cap) (fun wr hwr => by simp only [execOp, (F17.eval 2 (by omega)).trans (show _ = Value.slice (some ⟨b, off, none⟩) N cap from by simp [upd, e2, e11, e12, e13, e16])]; first | rfl | simp [go_sem]) fun F18 => ?_
        refine lyp F18 rfl HCC rfl (by omega) (want_yes F18 rfl (e := 81) rfl (by omega) (show _ = Value.bool false from by simp [upd, e2, e11, e12, e13, e16])) (v := Value.int .i64 (k : Nat)) (fun wr hwr => by simp only [execOp, (F18.eval 12 (by omega)).trans (show _ = Value.int .i64 (k : Nat) from by simp [upd, e2, e11, e12, e13, e16])]; first | rfl | simp [go_sem]) fun F19 => ?_
        refine lyp F19 rfl HCC rfl (by omega) (want_yes F19 rfl (e := 81) rfl (by omega) (show _ = Value.bool false from by simp [upd, e2, e11, e12, e13, e16])) (v := Value.pointer (some ⟨b, off + k, none⟩)) (fun wr hwr => by simp only [execOp, (F19.eval 85 (by omega)).trans (show _ = Value.slice (some ⟨b, off, none⟩) N cap from by simp [upd, e2, e11, e12, e13, e16]), (F19.eval 86 (by omega)).trans (show _ = Value.int .i64 (k : Nat) from by simp [upd, e2, e11, e12, e13, e16])]; simp only [Sem.run_bind, Sem.run_pure, Result.andThen_ok, idx_run 43 3 1 Try.underlying43 isz3 wr b off N cap k hlt, Nat.zero_add, Nat.mul_one]; try rfl) fun F20 => ?_
        refine lyp F20 rfl HCC rfl (by omega) (want_yes F20 rfl (e := 81) rfl (by omega) (show _ = Value.bool false from by simp [upd, e2, e11, e12, e13, e16])) (v := Value.int .i64 v) (fun wr hwr => by simp only [execOp, (F20.eval 87 (by omega)).trans (show _ = Value.pointer (some ⟨b, off + k, none⟩) from by simp [upd, e2, e11, e12, e13, e16])]; simp [go_sem, hwr.1]) fun F21 => ?_
        refine lyp F21 rfl HCC rfl (by omega) (want_yes F21 rfl (e := 81) rfl (by omega) (show _ = Value.bool false from by simp [upd, e2, e11, e12, e13, e16])) (v := Value.int .i64 (j : Nat)) (fun wr hwr => by simp only [execOp, (F21.eval 13 (by omega)).trans (show _ = Value.int .i64 (j : Nat) from by simp [upd, e2, e11, e12, e13, e16])]; first | rfl | simp [go_sem]) fun F22 => ?_
        refine lyp F22 rfl HCC rfl (by omega) (want_yes F22 rfl (e := 81) rfl (by omega) (show _ = Value.bool false from by simp [upd, e2, e11, e12, e13, e16])) (v := Value.pointer (some ⟨lb, j, none⟩)) (fun wr hwr => by simp only [execOp, (F22.eval 11 (by omega)).trans (show _ = Value.pointer (some ⟨lb, 0, none⟩) from by simp [upd, e2, e11, e12, e13, e16]), (F22.eval 89 (by omega)).trans (show _ = Value.int .i64 (j : Nat) from by simp [upd, e2, e11, e12, e13, e16])]; simp only [Sem.run_bind, Sem.run_pure, Result.andThen_ok, idx44 wr lb 0 j hj64, Nat.zero_add, Nat.mul_one]; try rfl) fun F23 => ?_
        refine lyp F23 rfl HCC rfl (by omega) (want_yes F23 rfl (e := 81) rfl (by omega) (show _ = Value.bool false from by simp [upd, e2, e11, e12, e13, e16])) (v := Value.int .i64 l) (fun wr hwr => by simp only [execOp, (F23.eval 90 (by omega)).trans (show _ = Value.pointer (some ⟨lb, j, none⟩) from by simp [upd, e2, e11, e12, e13, e16])]; simp [go_sem, hwr.2]) fun F24 => ?_
        refine lyp F24 rfl HCC rfl (by omega) (want_yes F24 rfl (e := 81) rfl (by omega) (show _ = Value.bool false from by simp [upd, e2, e11, e12, e13, e16])) (v := Value.int .i64 (l + 1)) (fun wr hwr => by simp only [execOp, (F24.eval 91 (by omega)).trans (show _ = Value.int .i64 l from by simp [upd, e2, e11, e12, e13, e16])]; simp [go_sem, Act.eval, show IntKind.i64.wrap (l + 1) = l + 1 from by rw [IntKind.wrap_i64]; omega]) fun F25 => ?_
        refine lyp F25 rfl HCC rfl (by omega) (want_yes F25 rfl (e := 81) rfl (by omega) (show _ = Value.bool false from by simp [upd, e2, e11, e12, e13, e16])) (v := Value.bool false) (fun wr hwr => by simp only [execOp, (F25.eval 88 (by omega)).trans (show _ = Value.int .i64 v from by simp [upd, e2, e11, e12, e13, e16]), (F25.eval 92 (by omega)).trans (show _ = Value.int .i64 (l + 1) from by simp [upd, e2, e11, e12, e13, e16])]; simp [go_sem, Act.eval, hgt]) fun F26 => ?_
        refine lyp F26 rfl HCC rfl (by omega) (want_yes F26 rfl (e := 81) rfl (by omega) (show _ = Value.bool false from by simp [upd, e2, e11, e12, e13, e16])) (v := Value.bool false) (fun wr hwr => by simp only [execOp, (F26.eval 93 (by omega)).trans (show _ = Value.bool false from by simp [upd, e2, e11, e12, e13, e16])]; first | rfl | simp [go_sem]) fun F27 => ?_
        refine lnp F27 rfl HCC rfl (by omega) (want_no F27 rfl (e := 94) rfl (by omega) (show _ = Value.bool false from by simp [upd, e2, e11, e12, e13, e16]) (by decide)) fun F28 => ?_
        refine lnp F28 rfl HCC rfl (by omega) (want_no F28 rfl (e := 94) rfl (by omega) (show _ = Value.bool false from by simp [upd, e2, e11, e12, e13, e16]) (by decide)) fun F29 => ?_
        refine lnp F29 rfl HCC rfl (by omega) (want_no F29 rfl (e := 94) rfl (by omega) (show _ = Value.bool false from by simp [upd, e2, e11, e12, e13, e16]) (by decide)) fun F30 => ?_
        refine lnp F30 rfl HCC rfl (by omega) (want_no F30 rfl (e := 94) rfl (by omega) (show _ = Value.bool false from by simp [upd, e2, e11, e12, e13, e16]) (by decide)) fun F31 => ?_
        refine lnp F31 rfl HCC rfl (by omega) (want_no F31 rfl (e := 94) rfl (by omega) (show _ = Value.bool false from by simp [upd, e2, e11, e12, e13, e16]) (by decide)) fun F32 => ?_
        refine lyp F32 rfl HCC rfl (by omega) (want_yes F32 rfl (e := 81) rfl (by omega) (show _ = Value.bool false from by simp [upd, e2, e11, e12, e13, e16])) (v := Value.bool false) (fun wr hwr => by simp only [execOp, (F32.eval 94 (by omega)).trans (show _ = Value.bool false from by simp [upd, e2, e11, e12, e13, e16])]; simp [go_sem, Act.eval]) fun F33 => ?_
        refine lyp F33 rfl HCC rfl (by omega) (want_yes F33 rfl (e := 81) rfl (by omega) (show _ = Value.bool false from by simp [upd, e2, e11, e12, e13, e16])) (v := Value.bool false) (fun wr hwr => by simp only [execOp, (F33.eval 84 (by omega)).trans (show _ = Value.bool false from by simp [upd, e2, e11, e12, e13, e16]), (F33.eval 100 (by omega)).trans (show _ = Value.bool false from by simp [upd, e2, e11, e12, e13, e16])]; simp [go_sem, Act.eval]) fun F34 => ?_
        refine lyp F34 rfl HCC rfl (by omega) (wanted_none rfl) (v := Value.bool false) (fun wr hwr => by simp only [execOp, (F34.eval 81 (by omega)).trans (show _ = Value.bool false from by simp [upd, e2, e11, e12, e13, e16]), (F34.eval 101 (by omega)).trans (show _ = Value.bool false from by simp [upd, e2, e11, e12, e13, e16])]; simp [go_sem, Act.eval]) fun F35 => ?_
        refine ⟨fun _ => HCC, ?_⟩
        refine hK _ _ ?_
        clear F0 F1 F2 F3 F4 F5 F6 F7 F8 F9 F10 F11 F12 F13 F14 F15 F16 F17 F18 F19 F20 F21 F22 F23 F24 F25 F26 F27 F28 F29 F30 F31 F32 F33 F34 F35 e2 e11 e12 e13 e16 HCC
        simp only [Act.put, List.setIfInBounds_toArray, List.set_cons_succ, List.set_cons_zero]
        obtain ⟨Y, hY⟩ : ∃ Y : World, Y = ({ X with drawn := X.drawn + 1 } : World) := ⟨_, rfl⟩
        have hbY : Below X.heap.size X Y := by rw [hY]; exact Below.drew (Below.refl _ _)
        have HMY : Hid (CM a (begX a x j v) Y) := HMX.out.more hbY
        have HBY : Hid (Blk Y lb C 44) := HB.out.below hbY HB.out.lt
        have HBLY : Hid (Below w.heap.size w Y) := HBX.out.trans (hbY.mono HBX.out.size)
        have hcy : Y.cell? ⟨lb, j, none⟩ = some (.int .i64 l) := by rw [hY]; exact HCL.out
        have hfz : Y.frozen? ⟨lb, j, none⟩ = false := HBY.out.frozen j
        rw [← hY]
        clear hY hbY HMX HB HBX HCL
        go_wp2_with fail
        refine Calls.mono (num_any 0 Y) ?_
        rintro e w6 ⟨rfl, hw6⟩
        replace hw6 := hw6.symm
        subst hw6
        go_wp2_with fail
        obtain ⟨V, hV⟩ : ∃ V : World, V = Y.setCell ⟨lb, j, none⟩ (.int .i64 (l + 1)) := ⟨_, rfl⟩
        have hcg : Chg (fun k => k = lb) Y V := by rw [hV]; exact setCell_chg Y lb j _
        have HBV : Hid (Blk V lb (C.setIfInBounds j (.int .i64 (l + 1))) 44) := show Blk V lb (C.setIfInBounds j (.int .i64 (l + 1))) 44 from by rw [hV]; exact HBY.out.set j _
        have HMV : Hid (CM a (begX a x j v) V) := HMY.out.keep hcg (fun q hq e => HO.out.nb (e ▸ hq))
        have HBLV : Hid (Below w.heap.size w V) := HBLY.out.trans (hcg.below HBLY.out.size (fun q hq => by rw [hq]; exact HO.out.lol))
        rw [← hV]
        clear hV hcg HMY HBY HBLY hcy
        have HNX : Hid (∀ W, Below V.heap.size V W → OrdS a lb (C.setIfInBounds j (.int .i64 (l + 1))) (begX a x j v) (k + 1) w W ∧ (begX a x j v).la j = l + 1) := fun W hW => by
          rw [HLD.out]
          refine HO.out.next (by omega) j hj64 HMI.out v (by rw [← HLD.out]; exact hv) (HMV.out.more hW) ?_ (HBLV.out.trans (hW.mono HBLV.out.size))
          rw [← HLD.out]
          exact HBV.out.below hW HBV.out.lt
        clear HBV HMV HBLV
        obtain ⟨C', hC'⟩ : ∃ C' : Array Value, C' = C.setIfInBounds j (.int .i64 (l + 1)) := ⟨_, rfl⟩
        rw [← hC'] at HNX
        obtain ⟨x', hx'⟩ : ∃ x' : CX, x' = begX a x j v := ⟨_, rfl⟩
        rw [← hx'] at HNX
        obtain ⟨l', hl'⟩ : ∃ l' : Int, l' = l + 1 := ⟨_, rfl⟩
        rw [← hl'] at HNX
        have HCY : Hid (V.cell? ⟨lb, j, none⟩ = some (.int .i64 l')) := show V.cell? ⟨lb, j, none⟩ = some (.int .i64 l') from by
          obtain ⟨q1, q2⟩ := HNX.out V (Below.refl _ _)
          rw [← q2]
          exact q1.cellAt q1.b j hj64
        have HLS : Hid (∀ W, Below V.heap.size V W → Calls Try.prog 14 #[.pointer (some ⟨a.cb, 0, none⟩), .int .i64 (j : Nat)] W fun e w' => e = .returned (.int .i64 l') ∧ Below W.heap.size W w') := fun W hW => by
          obtain ⟨q1, q2⟩ := HNX.out W hW
          have := last_any (j : Int) W q1.m ⟨by omega, by omega⟩
          rw [show lastA a x' j = l' from by unfold lastA; rw [if_pos HMI.out, q2]] at this
          exact this
        clear hx' hC' hl' HLD
        clear HO
        rename_i K2 hK2
        try rw [show ∀ a : Act, a.put none undef = a from fun _ => rfl]
        refine wp_region_mix (fun wq => wq.cell? ⟨lb, j, none⟩ = some (.int .i64 l')) (fun i => i == 2 || i == 99) 99 (by kernel_rfl) rfl (by kernel_rfl) (by kernel_rfl) (by kernel_rfl) ?_
        refine withFrP (N := 118) rfl ?_
        intro f0 F0 hff
        have e9 : f0 9 = Value.pointer (some ⟨a.cb, 0, none⟩) := hff 9
        have e11 : f0 11 = Value.pointer (some ⟨lb, 0, none⟩) := hff 11
        have e13 : f0 13 = Value.int .i64 (j : Nat) := hff 13
        clear hff
        have HCC : (fun wq => wq.cell? ⟨lb, j, none⟩ = some (.int .i64 l')) (({ V with drawn := V.drawn + 1 } : World)) := HCY.out
        refine lyp F0 rfl HCC rfl (by omega) (wanted_none rfl) (v := Value.pointer (some ⟨a.cb, 0, none⟩)) (fun wr hwr => by simp only [execOp, (F0.eval 9 (by omega)).trans (show _ = Value.pointer (some ⟨a.cb, 0, none⟩) from by simp [upd, e9, e11, e13])]; first | rfl | simp [go_sem]) fun F1 => ?_
        refine lyp F1 rfl HCC rfl (by omega) (wanted_none rfl) (v := Value.int .i64 (j : Nat)) (fun wr hwr => by simp only [execOp, (F1.eval 13 (by omega)).trans (show _ = Value.int .i64 (j : Nat) from by simp [upd, e9, e11, e13])]; first | rfl | simp [go_sem]) fun F2 => ?_
        refine lcp F2 rfl HCC rfl (by omega) (wanted_none rfl) (g := 14) (args := #[Value.pointer (some ⟨a.cb, 0, none⟩), Value.int .i64 (j : Nat)]) (by simp only [execOp, resolve, invoke, List.map_toArray, List.map_cons, List.map_nil, (F2.eval 111 (by omega)).trans (show _ = Value.pointer (some ⟨a.cb, 0, none⟩) from by simp [upd, e9, e11, e13]), (F2.eval 112 (by omega)).trans (show _ = Value.int .i64 (j : Nat) from by simp [upd, e9, e11, e13])]; simp [go_sem, Act.eval]) (HLS.out ({ V with drawn := V.drawn + 1 } : World) (Below.drew (Below.refl _ _))) ?_
        rintro e v5 ⟨rfl, hb5⟩
        have HC5 : (fun wq => wq.cell? ⟨lb, j, none⟩ = some (.int .i64 l')) v5 := (hb5.cell (p := ⟨lb, j, none⟩) (World.block_lt_of_cell? _ _ HCC)).trans HCC
        refine ⟨_, rfl, fun F3 => ?_⟩
        refine lyp F3 rfl HC5 rfl (by omega) (wanted_none rfl) (v := Value.int .i64 (j : Nat)) (fun wr hwr => by simp only [execOp, (F3.eval 13 (by omega)).trans (show _ = Value.int .i64 (j : Nat) from by simp [upd, e9, e11, e13])]; first | rfl | simp [go_sem]) fun F4 => ?_
        refine lyp F4 rfl HC5 rfl (by omega) (wanted_none rfl) (v := Value.pointer (some ⟨lb, j, none⟩)) (fun wr hwr => by simp only [execOp, (F4.eval 11 (by omega)).trans (show _ = Value.pointer (some ⟨lb, 0, none⟩) from by simp [upd, e9, e11, e13]), (F4.eval 114 (by omega)).trans (show _ = Value.int .i64 (j : Nat) from by simp [upd, e9, e11, e13])]; simp only [Sem.run_bind, Sem.run_pure, Result.andThen_ok, idx44 wr lb 0 j hj64, Nat.zero_add, Nat.mul_one]; try rfl) fun F5 => ?_
        refine lyp F5 rfl HC5 rfl (by omega) (wanted_none rfl) (v := Value.int .i64 l') (fun wr hwr => by simp only [execOp, (F5.eval 115 (by omega)).trans (show _ = Value.pointer (some ⟨lb, j, none⟩) from by simp [upd, e9, e11, e13])]; simp [go_sem, hwr]) fun F6 => ?_
        refine lyp F6 rfl HC5 rfl (by omega) (wanted_none rfl) (v := Value.bool false) (fun wr hwr => by simp only [execOp, (F6.eval 113 (by omega)).trans (show _ = Value.int .i64 l' from by simp [upd, e9, e11, e13]), (F6.eval 116 (by omega)).trans (show _ = Value.int .i64 l' from by simp [upd, e9, e11, e13])]; simp [go_sem, Act.eval]) fun F7 => ?_
        refine ⟨fun _ => HC5, ?_⟩
        refine hK2 _ _ ?_
        clear F0 F1 F2 F3 F4 F5 F6 F7 e9 e11 e13 HCC HC5
        simp only [Act.put, List.setIfInBounds_toArray, List.set_cons_succ, List.set_cons_zero]
        have HFI : Hid (OrdS a lb C' x' (k + 1) w v5) := (HNX.out v5 ((Below.drew (Below.refl _ _)).trans hb5)).1
        clear hb5 HNX HLS HCY
        go_wp2_with fail
        go_roundw
        case rel => exact ⟨k + 1, C', x', by omega, by go_num, HFI.out⟩
        case measure => simp [intOf]; omega

      by_cases hgt : l + 1 < v
      · by_cases hle : v ≤ 1099511627776
        · have hf : ordF l v = 131 := by unfold ordF; rw [if_neg (by omega), if_pos hgt]
          rw [hf]
          clear hf
          go_wp2_with fail
          rw [← hX]
          clear hX
          rename_i K hK
          try rw [show ∀ a : Act, a.put none undef = a from fun _ => rfl]
          refine wp_region_mix (fun wq => wq.cell? ⟨b, off + k, none⟩ = some (.int .i64 v) ∧ wq.cell? ⟨lb, j, none⟩ = some (.int .i64 l)) (fun i => i == 1 || i == 15 || i == 99) 99 (by kernel_rfl) rfl (by kernel_rfl) (by kernel_rfl) (by kernel_rfl) ?_
          refine withFrP (N := 118) rfl ?_
          intro f0 F0 hff
          have e2 : f0 2 = Value.slice (some ⟨b, off, none⟩) N cap := hff 2
          have e11 : f0 11 = Value.pointer (some ⟨lb, 0, none⟩) := hff 11
          have e12 : f0 12 = Value.int .i64 (k : Nat) := hff 12
          have e13 : f0 13 = Value.int .i64 (j : Nat) := hff 13
          have e16 : f0 16 = Value.int .i64 131 := hff 16
          clear hff
          have HCC : (fun wq => wq.cell? ⟨b, off + k, none⟩ = some (.int .i64 v) ∧ wq.cell? ⟨lb, j, none⟩ = some (.int .i64 l)) (({ X with drawn := X.drawn + 1 } : World)) := ⟨HI.out _ (Below.drew HBX.out), HCL.out⟩
          refine lyp F0 rfl HCC rfl (by omega) (wanted_none rfl) (v := Value.int .i64 131) (fun wr hwr => by simp only [execOp, (F0.eval 16 (by omega)).trans (show _ = Value.int .i64 131 from by simp [upd, e2, e11, e12, e13, e16])]; first | rfl | simp [go_sem]) fun F1 => ?_
          refine lcp F1 rfl HCC rfl (by omega) (wanted_none rfl) (g := 11) (args := #[Value.int .i64 131]) (by simp only [execOp, resolve, invoke, List.map_toArray, List.map_cons, List.map_nil, (F1.eval 68 (by omega)).trans (show _ = Value.int .i64 131 from by simp [upd, e2, e11, e12, e13, e16])]; simp [go_sem, Act.eval]) (num_any 131 _) ?_
          rintro e v3 ⟨rfl, rfl⟩
          refine ⟨_, rfl, fun F2 => ?_⟩
          refine lyp F2 rfl HCC rfl (by omega) (wanted_none rfl) (v := Value.bool false) (fun wr hwr => by simp only [execOp, (F2.eval 69 (by omega)).trans (show _ = Value.int .i64 131 from by simp [upd, e2, e11, e12, e13, e16])]; simp [go_sem, Act.eval]) fun F3 => ?_
          refine lyp F3 rfl HCC rfl (by omega) (wanted_none rfl) (v := Value.slice (some ⟨b, off, none⟩) N cap) (fun wr hwr => by simp only [execOp, (F3.eval 2 (by omega)).trans (show _ = Value.slice (some ⟨b, off, none⟩) N cap from by simp [upd, e2, e11, e12, e13, e16])]; first | rfl | simp [go_sem]) fun F4 => ?_
          refine lyp F4 rfl HCC rfl (by omega) (wanted_none rfl) (v := Value.int .i64 (k : Nat)) (fun wr hwr => by simp only [execOp, (F4.eval 12 (by omega)).trans (show _ = Value.int .i64 (k : Nat) from by simp [upd, e2, e11, e12, e13, e16])]; first | rfl | simp [go_sem]) fun F5 => ?_
          refine lyp F5 rfl HCC rfl (by omega) (wanted_none rfl) (v := Value.pointer (some ⟨b, off + k, none⟩)) (fun wr hwr => by simp only [execOp, (F5.eval 71 (by omega)).trans (show _ = Value.slice (some ⟨b, off, none⟩) N cap from by simp [upd, e2, e11, e12, e13, e16]), (F5.eval 72 (by omega)).trans (show _ = Value.int .i64 (k : Nat) from by simp [upd, e2, e11, e12, e13, e16])]; simp only [Sem.run_bind, Sem.run_pure, Result.andThen_ok, idx_run 43 3 1 Try.underlying43 isz3 wr b off N cap k hlt, Nat.zero_add, Nat.mul_one]; try rfl) fun F6 => ?_
          refine lyp F6 rfl HCC rfl (by omega) (wanted_none rfl) (v := Value.int .i64 v) (fun wr hwr => by simp only [execOp, (F6.eval 73 (by omega)).trans (show _ = Value.pointer (some ⟨b, off + k, none⟩) from by simp [upd, e2, e11, e12, e13, e16])]; simp [go_sem, hwr.1]) fun F7 => ?_
          refine lyp F7 rfl HCC rfl (by omega) (wanted_none rfl) (v := Value.int .i64 (j : Nat)) (fun wr hwr => by simp only [execOp, (F7.eval 13 (by omega)).trans (show _ = Value.int .i64 (j : Nat) from by simp [upd, e2, e11, e12, e13, e16])]; first | rfl | simp [go_sem]) fun F8 => ?_
          refine lyp F8 rfl HCC rfl (by omega) (wanted_none rfl) (v := Value.pointer (some ⟨lb, j, none⟩)) (fun wr hwr => by simp only [execOp, (F8.eval 11 (by omega)).trans (show _ = Value.pointer (some ⟨lb, 0, none⟩) from by simp [upd, e2, e11, e12, e13, e16]), (F8.eval 75 (by omega)).trans (show _ = Value.int .i64 (j : Nat) from by simp [upd, e2, e11, e12, e13, e16])]; simp only [Sem.run_bind, Sem.run_pure, Result.andThen_ok, idx44 wr lb 0 j hj64, Nat.zero_add, Nat.mul_one]; try rfl) fun F9 => ?_
          refine lyp F9 rfl HCC rfl (by omega) (wanted_none rfl) (v := Value.int .i64 l) (fun wr hwr => by simp only [execOp, (F9.eval 76 (by omega)).trans (show _ = Value.pointer (some ⟨lb, j, none⟩) from by simp [upd, e2, e11, e12, e13, e16])]; simp [go_sem, hwr.2]) fun F10 => ?_
          refine lyp F10 rfl HCC rfl (by omega) (wanted_none rfl) (v := Value.int .i64 (l + 1)) (fun wr hwr => by simp only [execOp, (F10.eval 77 (by omega)).trans (show _ = Value.int .i64 l from by simp [upd, e2, e11, e12, e13, e16])]; simp [go_sem, Act.eval, show IntKind.i64.wrap (l + 1) = l + 1 from by rw [IntKind.wrap_i64]; omega]) fun F11 => ?_
          refine lyp F11 rfl HCC rfl (by omega) (wanted_none rfl) (v := Value.bool false) (fun wr hwr => by simp only [execOp, (F11.eval 74 (by omega)).trans (show _ = Value.int .i64 v from by simp [upd, e2, e11, e12, e13, e16]), (F11.eval 78 (by omega)).trans (show _ = Value.int .i64 (l + 1) from by simp [upd, e2, e11, e12, e13, e16])]; simp [go_sem, Act.eval, hv]) fun F12 => ?_
          refine lyp F12 rfl HCC rfl (by omega) (wanted_none rfl) (v := Value.bool false) (fun wr hwr => by simp only [execOp, (F12.eval 70 (by omega)).trans (show _ = Value.bool false from by simp [upd, e2, e11, e12, e13, e16]), (F12.eval 79 (by omega)).trans (show _ = Value.bool false from by simp [upd, e2, e11, e12, e13, e16])]; simp [go_sem, Act.eval]) fun F13 => ?_
          refine lyp F13 rfl HCC rfl (by omega) (wanted_none rfl) (v := Value.bool false) (fun wr hwr => by simp only [execOp, (F13.eval 80 (by omega)).trans (show _ = Value.bool false from by simp [upd, e2, e11, e12, e13, e16])]; first | rfl | simp [go_sem]) fun F14 => ?_
          refine lyp F14 rfl HCC rfl (by omega) (want_yes F14 rfl (e := 81) rfl (by omega) (show _ = Value.bool false from by simp [upd, e2, e11, e12, e13, e16])) (v := Value.int .i64 131) (fun wr hwr => by simp only [execOp, (F14.eval 16 (by omega)).trans (show _ = Value.int .i64 131 from by simp [upd, e2, e11, e12, e13, e16])]; first | rfl | simp [go_sem]) fun F15 => ?_
          refine lcp F15 rfl HCC rfl (by omega) (want_yes F15 rfl (e := 81) rfl (by omega) (show _ = Value.bool false from by simp [upd, e2, e11, e12, e13, e16])) (g := 11) (args := #[Value.int .i64 131]) (by simp only [execOp, resolve, invoke, List.map_toArray, List.map_cons, List.map_nil, (F15.eval 82 (by omega)).trans (show _ = Value.int .i64 131 from by simp [upd, e2, e11, e12, e13, e16])]; simp [go_sem, Act.eval]) (num_any 131 _) ?_
          rintro e v4 ⟨rfl, rfl⟩
          refine ⟨_, rfl, fun F16 => ?_⟩
          refine lyp F16 rfl HCC rfl (by omega) (want_yes F16 rfl (e := 81) rfl (by omega) (show _ = Value.bool false from by simp [upd, e2, e11, e12, e13, e16])) (v := Value.bool true) (fun wr hwr => by simp only [execOp, (F16.eval 83 (by omega)).trans (show _ = Value.int .i64 131 from by simp [upd, e2, e11, e12, e13, e16])]; simp [go_sem, Act.eval]) fun F17 => ?_
          refine lyp F17 rfl HCC rfl (by omega) (want_yes F17 rfl (e := 81) rfl (by omega) (show _ = Value.bool false from by simp [upd, e2, e11, e12, e13, e16])) (v := Value.slice (some ⟨b, off, none⟩) N cap) (fun wr hwr => by simp only [execOp, (F17.eval 2 (by omega)).trans (show _ = Value.slice (some ⟨b, off, none⟩) N cap from by simp [upd, e2, e11, e12, e13, e16])]; first | rfl | simp [go_sem]) fun F18 => ?_
          refine lyp F18 rfl HCC rfl (by omega) (want_yes F18 rfl (e := 81) rfl (by omega) (show _ = Value.bool false from by simp [upd, e2, e11, e12, e13, e16])) (v := Value.int .i64 (k : Nat)) (fun wr hwr => by simp only [execOp, (F18.eval 12 (by omega)).trans (show _ = Value.int .i64 (k : Nat) from by simp [upd, e2, e11, e12, e13, e16])]; first | rfl | simp [go_sem]) fun F19 => ?_
          refine lyp F19 rfl HCC rfl (by omega) (want_yes F19 rfl (e := 81) rfl (by omega) (show _ = Value.bool false from by simp [upd, e2, e11, e12, e13, e16])) (v := Value.pointer (some ⟨b, off + k, none⟩)) (fun wr hwr => by simp only [execOp, (F19.eval 85 (by omega)).trans (show _ = Value.slice (some ⟨b, off, none⟩) N cap from by simp [upd, e2, e11, e12, e13, e16]), (F19.eval 86 (by omega)).trans (show _ = Value.int .i64 (k : Nat) from by simp [upd, e2, e11, e12, e13, e16])]; simp only [Sem.run_bind, Sem.run_pure, Result.andThen_ok, idx_run 43 3 1 Try.underlying43 isz3 wr b off N cap k hlt, Nat.zero_add, Nat.mul_one]; try rfl) fun F20 => ?_
          refine lyp F20 rfl HCC rfl (by omega) (want_yes F20 rfl (e := 81) rfl (by omega) (show _ = Value.bool false from by simp [upd, e2, e11, e12, e13, e16])) (v := Value.int .i64 v) (fun wr hwr => by simp only [execOp, (F20.eval 87 (by omega)).trans (show _ = Value.pointer (some ⟨b, off + k, none⟩) from by simp [upd, e2, e11, e12, e13, e16])]; simp [go_sem, hwr.1]) fun F21 => ?_
          refine lyp F21 rfl HCC rfl (by omega) (want_yes F21 rfl (e := 81) rfl (by omega) (show _ = Value.bool false from by simp [upd, e2, e11, e12, e13, e16])) (v := Value.int .i64 (j : Nat)) (fun wr hwr => by simp only [execOp, (F21.eval 13 (by omega)).trans (show _ = Value.int .i64 (j : Nat) from by simp [upd, e2, e11, e12, e13, e16])]; first | rfl | simp [go_sem]) fun F22 => ?_
          refine lyp F22 rfl HCC rfl (by omega) (want_yes F22 rfl (e := 81) rfl (by omega) (show _ = Value.bool false from by simp [upd, e2, e11, e12, e13, e16])) (v := Value.pointer (some ⟨lb, j, none⟩)) (fun wr hwr => by simp only [execOp, (F22.eval 11 (by omega)).trans (show _ = Value.pointer (some ⟨lb, 0, none⟩) from by simp [upd, e2, e11, e12, e13, e16]), (F22.eval 89 (by omega)).trans (show _ = Value.int .i64 (j : Nat) from by simp [upd, e2, e11, e12, e13, e16])]; simp only [Sem.run_bind, Sem.run_pure, Result.andThen_ok, idx44 wr lb 0 j hj64, Nat.zero_add, Nat.mul_one]; try rfl) fun F23 => ?_
          refine lyp F23 rfl HCC rfl (by omega) (want_yes F23 rfl (e := 81) rfl (by omega) (show _ = Value.bool false from by simp [upd, e2, e11, e12, e13, e16])) (v := Value.int .i64 l) (fun wr hwr => by simp only [execOp, (F23.eval 90 (by omega)).trans (show _ = Value.pointer (some ⟨lb, j, none⟩) from by simp [upd, e2, e11, e12, e13, e16])]; simp [go_sem, hwr.2]) fun F24 => ?_
          refine lyp F24 rfl HCC rfl (by omega) (want_yes F24 rfl (e := 81) rfl (by omega) (show _ = Value.bool false from by simp [upd, e2, e11, e12, e13, e16])) (v := Value.int .i64 (l + 1)) (fun wr hwr => by simp only [execOp, (F24.eval 91 (by omega)).trans (show _ = Value.int .i64 l from by simp [upd, e2, e11, e12, e13, e16])]; simp [go_sem, Act.eval, show IntKind.i64.wrap (l + 1) = l + 1 from by rw [IntKind.wrap_i64]; omega]) fun F25 => ?_
          refine lyp F25 rfl HCC rfl (by omega) (want_yes F25 rfl (e := 81) rfl (by omega) (show _ = Value.bool false from by simp [upd, e2, e11, e12, e13, e16])) (v := Value.bool true) (fun wr hwr => by simp only [execOp, (F25.eval 88 (by omega)).trans (show _ = Value.int .i64 v from by simp [upd, e2, e11, e12, e13, e16]), (F25.eval 92 (by omega)).trans (show _ = Value.int .i64 (l + 1) from by simp [upd, e2, e11, e12, e13, e16])]; simp [go_sem, Act.eval, hgt]) fun F26 => ?_
          refine lyp F26 rfl HCC rfl (by omega) (want_yes F26 rfl (e := 81) rfl (by omega) (show _ = Value.bool false from by simp [upd, e2, e11, e12, e13, e16])) (v := Value.bool true) (fun wr hwr => by simp only [execOp, (F26.eval 93 (by omega)).trans (show _ = Value.bool true from by simp [upd, e2, e11, e12, e13, e16])]; first | rfl | simp [go_sem]) fun F27 => ?_
          refine lyp F27 rfl HCC rfl (by omega) (want_yes F27 rfl (e := 94) rfl (by omega) (show _ = Value.bool true from by simp [upd, e2, e11, e12, e13, e16])) (v := Value.slice (some ⟨b, off, none⟩) N cap) (fun wr hwr => by simp only [execOp, (F27.eval 2 (by omega)).trans (show _ = Value.slice (some ⟨b, off, none⟩) N cap from by simp [upd, e2, e11, e12, e13, e16])]; first | rfl | simp [go_sem]) fun F28 => ?_
          refine lyp F28 rfl HCC rfl (by omega) (want_yes F28 rfl (e := 94) rfl (by omega) (show _ = Value.bool true from by simp [upd, e2, e11, e12, e13, e16])) (v := Value.int .i64 (k : Nat)) (fun wr hwr => by simp only [execOp, (F28.eval 12 (by omega)).trans (show _ = Value.int .i64 (k : Nat) from by simp [upd, e2, e11, e12, e13, e16])]; first | rfl | simp [go_sem]) fun F29 => ?_
          refine lyp F29 rfl HCC rfl (by omega) (want_yes F29 rfl (e := 94) rfl (by omega) (show _ = Value.bool true from by simp [upd, e2, e11, e12, e13, e16])) (v := Value.pointer (some ⟨b, off + k, none⟩)) (fun wr hwr => by simp only [execOp, (F29.eval 95 (by omega)).trans (show _ = Value.slice (some ⟨b, off, none⟩) N cap from by simp [upd, e2, e11, e12, e13, e16]), (F29.eval 96 (by omega)).trans (show _ = Value.int .i64 (k : Nat) from by simp [upd, e2, e11, e12, e13, e16])]; simp only [Sem.run_bind, Sem.run_pure, Result.andThen_ok, idx_run 43 3 1 Try.underlying43 isz3 wr b off N cap k hlt, Nat.zero_add, Nat.mul_one]; try rfl) fun F30 => ?_
          refine lyp F30 rfl HCC rfl (by omega) (want_yes F30 rfl (e := 94) rfl (by omega) (show _ = Value.bool true from by simp [upd, e2, e11, e12, e13, e16])) (v := Value.int .i64 v) (fun wr hwr => by simp only [execOp, (F30.eval 97 (by omega)).trans (show _ = Value.pointer (some ⟨b, off + k, none⟩) from by simp [upd, e2, e11, e12, e13, e16])]; simp [go_sem, hwr.1]) fun F31 => ?_
          refine lyp F31 rfl HCC rfl (by omega) (want_yes F31 rfl (e := 94) rfl (by omega) (show _ = Value.bool true from by simp [upd, e2, e11, e12, e13, e16])) (v := Value.bool true) (fun wr hwr => by simp only [execOp, (F31.eval 98 (by omega)).trans (show _ = Value.int .i64 v from by simp [upd, e2, e11, e12, e13, e16])]; simp [go_sem, Act.eval, hle]) fun F32 => ?_
          refine lyp F32 rfl HCC rfl (by omega) (want_yes F32 rfl (e := 81) rfl (by omega) (show _ = Value.bool false from by simp [upd, e2, e11, e12, e13, e16])) (v := Value.bool true) (fun wr hwr => by simp only [execOp, (F32.eval 94 (by omega)).trans (show _ = Value.bool true from by simp [upd, e2, e11, e12, e13, e16]), (F32.eval 99 (by omega)).trans (show _ = Value.bool true from by simp [upd, e2, e11, e12, e13, e16])]; simp [go_sem, Act.eval]) fun F33 => ?_
          refine lyp F33 rfl HCC rfl (by omega) (want_yes F33 rfl (e := 81) rfl (by omega) (show _ = Value.bool false from by simp [upd, e2, e11, e12, e13, e16])) (v := Value.bool false) (fun wr hwr => by simp only [execOp, (F33.eval 84 (by omega)).trans (show _ = Value.bool true from by simp [upd, e2, e11, e12, e13, e16]), (F33.eval 100 (by omega)).trans (show _ = Value.bool true from by simp [upd, e2, e11, e12, e13, e16])]; simp [go_sem, Act.eval]) fun F34 => ?_
          refine lyp F34 rfl HCC rfl (by omega) (wanted_none rfl) (v := Value.bool false) (fun wr hwr => by simp only [execOp, (F34.eval 81 (by omega)).trans (show _ = Value.bool false from by simp [upd, e2, e11, e12, e13, e16]), (F34.eval 101 (by omega)).trans (show _ = Value.bool false from by simp [upd, e2, e11, e12, e13, e16])]; simp [go_sem, Act.eval]) fun F35 => ?_
          refine ⟨fun _ => HCC, ?_⟩
          refine hK _ _ ?_
          clear F0 F1 F2 F3 F4 F5 F6 F7 F8 F9 F10 F11 F12 F13 F14 F15 F16 F17 F18 F19 F20 F21 F22 F23 F24 F25 F26 F27 F28 F29 F30 F31 F32 F33 F34 F35 e2 e11 e12 e13 e16 HCC
          simp only [Act.put, List.setIfInBounds_toArray, List.set_cons_succ, List.set_cons_zero]
          obtain ⟨Y, hY⟩ : ∃ Y : World, Y = ({ X with drawn := X.drawn + 1 } : World) := ⟨_, rfl⟩
          have hbY : Below X.heap.size X Y := by rw [hY]; exact Below.drew (Below.refl _ _)
          have HMY : Hid (CM a (begX a x j v) Y) := HMX.out.more hbY
          have HBY : Hid (Blk Y lb C 44) := HB.out.below hbY HB.out.lt
          have HBLY : Hid (Below w.heap.size w Y) := HBX.out.trans (hbY.mono HBX.out.size)
          have hcy : Y.cell? ⟨lb, j, none⟩ = some (.int .i64 l) := by rw [hY]; exact HCL.out
          have hfz : Y.frozen? ⟨lb, j, none⟩ = false := HBY.out.frozen j
          rw [← hY]
          clear hY hbY HMX HB HBX HCL
          go_wp2_with fail
          refine Calls.mono (num_any 131 Y) ?_
          rintro e w6 ⟨rfl, hw6⟩
          replace hw6 := hw6.symm
          subst hw6
          go_wp2_with fail
          obtain ⟨V, hV⟩ : ∃ V : World, V = Y := ⟨_, rfl⟩
          obtain ⟨l', hl'⟩ : ∃ l' : Int, l' = l := ⟨_, rfl⟩
          obtain ⟨x', hx'⟩ : ∃ x' : CX, x' = x := ⟨_, rfl⟩
          obtain ⟨C', hC'⟩ : ∃ C' : Array Value, C' = C := ⟨_, rfl⟩
          have HNX : Hid (∀ W, Below V.heap.size V W → OrdS a lb C' x' (k + 1) w W ∧ x'.la j = l') := fun W hW => by
            have hm := HMY.out
            rw [show begX a x j v = x from if_neg (fun hh => hv (by rw [HLD.out]; exact hh.2.2.2))] at hm
            rw [hV] at hW
            rw [hC', hx', hl']
            exact ⟨HO.out.keep (hm.more hW) (HBY.out.below hW HBY.out.lt) (HBLY.out.trans (hW.mono HBLY.out.size)), HLD.out.symm⟩
          rw [← hV]
          clear HMY HBY HBLY hcy
          have HCY : Hid (V.cell? ⟨lb, j, none⟩ = some (.int .i64 l')) := show V.cell? ⟨lb, j, none⟩ = some (.int .i64 l') from by
            obtain ⟨q1, q2⟩ := HNX.out V (Below.refl _ _)
            rw [← q2]
            exact q1.cellAt q1.b j hj64
          have HLS : Hid (∀ W, Below V.heap.size V W → Calls Try.prog 14 #[.pointer (some ⟨a.cb, 0, none⟩), .int .i64 (j : Nat)] W fun e w' => e = .returned (.int .i64 l') ∧ Below W.heap.size W w') := fun W hW => by
            obtain ⟨q1, q2⟩ := HNX.out W hW
            have := last_any (j : Int) W q1.m ⟨by omega, by omega⟩
            rw [show lastA a x' j = l' from by unfold lastA; rw [if_pos HMI.out, q2]] at this
            exact this
          clear hx' hC' hl' HLD
          clear hV HO
          rename_i K2 hK2
          try rw [show ∀ a : Act, a.put none undef = a from fun _ => rfl]
          refine wp_region_mix (fun wq => wq.cell? ⟨lb, j, none⟩ = some (.int .i64 l')) (fun i => i == 2 || i == 99) 99 (by kernel_rfl) rfl (by kernel_rfl) (by kernel_rfl) (by kernel_rfl) ?_
          refine withFrP (N := 118) rfl ?_
          intro f0 F0 hff
          have e9 : f0 9 = Value.pointer (some ⟨a.cb, 0, none⟩) := hff 9
          have e11 : f0 11 = Value.pointer (some ⟨lb, 0, none⟩) := hff 11
          have e13 : f0 13 = Value.int .i64 (j : Nat) := hff 13
          clear hff
          have HCC : (fun wq => wq.cell? ⟨lb, j, none⟩ = some (.int .i64 l')) (({ V with drawn := V.drawn + 1 } : World)) := HCY.out
          refine lyp F0 rfl HCC rfl (by omega) (wanted_none rfl) (v := Value.pointer (some ⟨a.cb, 0, none⟩)) (fun wr hwr => by simp only [execOp, (F0.eval 9 (by omega)).trans (show _ = Value.pointer (some ⟨a.cb, 0, none⟩) from by simp [upd, e9, e11, e13])]; first | rfl | simp [go_sem]) fun F1 => ?_
          refine lyp F1 rfl HCC rfl (by omega) (wanted_none rfl) (v := Value.int .i64 (j : Nat)) (fun wr hwr => by simp only [execOp, (F1.eval 13 (by omega)).trans (show _ = Value.int .i64 (j : Nat) from by simp [upd, e9, e11, e13])]; first | rfl | simp [go_sem]) fun F2 => ?_
          refine lcp F2 rfl HCC rfl (by omega) (wanted_none rfl) (g := 14) (args := #[Value.pointer (some ⟨a.cb, 0, none⟩), Value.int .i64 (j : Nat)]) (by simp only [execOp, resolve, invoke, List.map_toArray, List.map_cons, List.map_nil, (F2.eval 111 (by omega)).trans (show _ = Value.pointer (some ⟨a.cb, 0, none⟩) from by simp [upd, e9, e11, e13]), (F2.eval 112 (by omega)).trans (show _ = Value.int .i64 (j : Nat) from by simp [upd, e9, e11, e13])]; simp [go_sem, Act.eval]) (HLS.out ({ V with drawn := V.drawn + 1 } : World) (Below.drew (Below.refl _ _))) ?_
          rintro e v5 ⟨rfl, hb5⟩
          have HC5 : (fun wq => wq.cell? ⟨lb, j, none⟩ = some (.int .i64 l')) v5 := (hb5.cell (p := ⟨lb, j, none⟩) (World.block_lt_of_cell? _ _ HCC)).trans HCC
          refine ⟨_, rfl, fun F3 => ?_⟩
          refine lyp F3 rfl HC5 rfl (by omega) (wanted_none rfl) (v := Value.int .i64 (j : Nat)) (fun wr hwr => by simp only [execOp, (F3.eval 13 (by omega)).trans (show _ = Value.int .i64 (j : Nat) from by simp [upd, e9, e11, e13])]; first | rfl | simp [go_sem]) fun F4 => ?_
          refine lyp F4 rfl HC5 rfl (by omega) (wanted_none rfl) (v := Value.pointer (some ⟨lb, j, none⟩)) (fun wr hwr => by simp only [execOp, (F4.eval 11 (by omega)).trans (show _ = Value.pointer (some ⟨lb, 0, none⟩) from by simp [upd, e9, e11, e13]), (F4.eval 114 (by omega)).trans (show _ = Value.int .i64 (j : Nat) from by simp [upd, e9, e11, e13])]; simp only [Sem.run_bind, Sem.run_pure, Result.andThen_ok, idx44 wr lb 0 j hj64, Nat.zero_add, Nat.mul_one]; try rfl) fun F5 => ?_
          refine lyp F5 rfl HC5 rfl (by omega) (wanted_none rfl) (v := Value.int .i64 l') (fun wr hwr => by simp only [execOp, (F5.eval 115 (by omega)).trans (show _ = Value.pointer (some ⟨lb, j, none⟩) from by simp [upd, e9, e11, e13])]; simp [go_sem, hwr]) fun F6 => ?_
          refine lyp F6 rfl HC5 rfl (by omega) (wanted_none rfl) (v := Value.bool false) (fun wr hwr => by simp only [execOp, (F6.eval 113 (by omega)).trans (show _ = Value.int .i64 l' from by simp [upd, e9, e11, e13]), (F6.eval 116 (by omega)).trans (show _ = Value.int .i64 l' from by simp [upd, e9, e11, e13])]; simp [go_sem, Act.eval]) fun F7 => ?_
          refine ⟨fun _ => HC5, ?_⟩
          refine hK2 _ _ ?_
          clear F0 F1 F2 F3 F4 F5 F6 F7 e9 e11 e13 HCC HC5
          simp only [Act.put, List.setIfInBounds_toArray, List.set_cons_succ, List.set_cons_zero]
          have HFI : Hid (OrdS a lb C' x' (k + 1) w v5) := (HNX.out v5 ((Below.drew (Below.refl _ _)).trans hb5)).1
          clear hb5 HNX HLS HCY
          go_wp2_with fail
          go_roundw
          case rel => exact ⟨k + 1, C', x', by omega, by go_num, HFI.out⟩
          case measure => simp [intOf]; omega

        · obtain ⟨f, hff⟩ : ∃ f, f = ordF l v := ⟨_, rfl⟩
          have hf : f = 1 := by rw [hff]; unfold ordF; rw [if_pos (by omega)]
          have hf0 : ¬ f = 0 := by omega
          have hf131 : ¬ f = 131 := by omega
          rw [← hff]
          clear hff
          clear hf
          go_wp2_with fail
          rw [← hX]
          clear hX
          rename_i K hK
          try rw [show ∀ a : Act, a.put none undef = a from fun _ => rfl]
          refine wp_region_mix (fun wq => wq.cell? ⟨b, off + k, none⟩ = some (.int .i64 v) ∧ wq.cell? ⟨lb, j, none⟩ = some (.int .i64 l)) (fun i => i == 1 || i == 15 || i == 99) 99 (by kernel_rfl) rfl (by kernel_rfl) (by kernel_rfl) (by kernel_rfl) ?_
          refine withFrP (N := 118) rfl ?_
          intro f0 F0 hff
          have e2 : f0 2 = Value.slice (some ⟨b, off, none⟩) N cap := hff 2
          have e11 : f0 11 = Value.pointer (some ⟨lb, 0, none⟩) := hff 11
          have e12 : f0 12 = Value.int .i64 (k : Nat) := hff 12
          have e13 : f0 13 = Value.int .i64 (j : Nat) := hff 13
          have e16 : f0 16 = Value.int .i64 f := hff 16
          clear hff
          have HCC : (fun wq => wq.cell? ⟨b, off + k, none⟩ = some (.int .i64 v) ∧ wq.cell? ⟨lb, j, none⟩ = some (.int .i64 l)) (({ X with drawn := X.drawn + 1 } : World)) := ⟨HI.out _ (Below.drew HBX.out), HCL.out⟩
          refine lyp F0 rfl HCC rfl (by omega) (wanted_none rfl) (v := Value.int .i64 f) (fun wr hwr => by simp only [execOp, (F0.eval 16 (by omega)).trans (show _ = Value.int .i64 f from by simp [upd, e2, e11, e12, e13, e16])]; first | rfl | simp [go_sem]) fun F1 => ?_
          refine lcp F1 rfl HCC rfl (by omega) (wanted_none rfl) (g := 11) (args := #[Value.int .i64 f]) (by simp only [execOp, resolve, invoke, List.map_toArray, List.map_cons, List.map_nil, (F1.eval 68 (by omega)).trans (show _ = Value.int .i64 f from by simp [upd, e2, e11, e12, e13, e16])]; simp [go_sem, Act.eval]) (num_any f _) ?_
          rintro e v3 ⟨rfl, rfl⟩
          refine ⟨_, rfl, fun F2 => ?_⟩
          refine lyp F2 rfl HCC rfl (by omega) (wanted_none rfl) (v := Value.bool false) (fun wr hwr => by simp only [execOp, (F2.eval 69 (by omega)).trans (show _ = Value.int .i64 f from by simp [upd, e2, e11, e12, e13, e16])]; simp [go_sem, Act.eval, hf0]) fun F3 => ?_
          refine lyp F3 rfl HCC rfl (by omega) (wanted_none rfl) (v := Value.slice (some ⟨b, off, none⟩) N cap) (fun wr hwr => by simp only [execOp, (F3.eval 2 (by omega)).trans (show _ = Value.slice (some ⟨b, off, none⟩) N cap from by simp [upd, e2, e11, e12, e13, e16])]; first | rfl | simp [go_sem]) fun F4 => ?_
          refine lyp F4 rfl HCC rfl (by omega) (wanted_none rfl) (v := Value.int .i64 (k : Nat)) (fun wr hwr => by simp only [execOp, (F4.eval 12 (by omega)).trans (show _ = Value.int .i64 (k : Nat) from by simp [upd, e2, e11, e12, e13, e16])]; first | rfl | simp [go_sem]) fun F5 => ?_
          refine lyp F5 rfl HCC rfl (by omega) (wanted_none rfl) (v := Value.pointer (some ⟨b, off + k, none⟩)) (fun wr hwr => by simp only [execOp, (F5.eval 71 (by omega)).trans (show _ = Value.slice (some ⟨b, off, none⟩) N cap from by simp [upd, e2, e11, e12, e13, e16]), (F5.eval 72 (by omega)).trans (show _ = Value.int .i64 (k : Nat) from by simp [upd, e2, e11, e12, e13, e16])]; simp only [Sem.run_bind, Sem.run_pure, Result.andThen_ok, idx_run 43 3 1 Try.underlying43 isz3 wr b off N cap k hlt, Nat.zero_add, Nat.mul_one]; try rfl) fun F6 => ?_
          refine lyp F6 rfl HCC rfl (by omega) (wanted_none rfl) (v := Value.int .i64 v) (fun wr hwr => by simp only [execOp, (F6.eval 73 (by omega)).trans (show _ = Value.pointer (some ⟨b, off + k, none⟩) from by simp [upd, e2, e11, e12, e13, e16])]; simp [go_sem, hwr.1]) fun F7 => ?_
          refine lyp F7 rfl HCC rfl (by omega) (wanted_none rfl) (v := Value.int .i64 (j : Nat)) (fun wr hwr => by simp only [execOp, (F7.eval 13 (by omega)).trans (show _ = Value.int .i64 (j : Nat) from by simp [upd, e2, e11, e12, e13, e16])]; first | rfl | simp [go_sem]) fun F8 => ?_
          refine lyp F8 rfl HCC rfl (by omega) (wanted_none rfl) (v := Value.pointer (some ⟨lb, j, none⟩)) (fun wr hwr => by simp only [execOp, (F8.eval 11 (by omega)).trans (show _ = Value.pointer (some ⟨lb, 0, none⟩) from by simp [upd, e2, e11, e12, e13, e16]), (F8.eval 75 (by omega)).trans (show _ = Value.int .i64 (j : Nat) from by simp [upd, e2, e11, e12, e13, e16])]; simp only [Sem.run_bind, Sem.run_pure, Result.andThen_ok, idx44 wr lb 0 j hj64, Nat.zero_add, Nat.mul_one]; try rfl) fun F9 => ?_
          refine lyp F9 rfl HCC rfl (by omega) (wanted_none rfl) (v := Value.int .i64 l) (fun wr hwr => by simp only [execOp, (F9.eval 76 (by omega)).trans (show _ = Value.pointer (some ⟨lb, j, none⟩) from by simp [upd, e2, e11, e12, e13, e16])]; simp [go_sem, hwr.2]) fun F10 => ?_
          refine lyp F10 rfl HCC rfl (by omega) (wanted_none rfl) (v := Value.int .i64 (l + 1)) (fun wr hwr => by simp only [execOp, (F10.eval 77 (by omega)).trans (show _ = Value.int .i64 l from by simp [upd, e2, e11, e12, e13, e16])]; simp [go_sem, Act.eval, show IntKind.i64.wrap (l + 1) = l + 1 from by rw [IntKind.wrap_i64]; omega]) fun F11 => ?_
          refine lyp F11 rfl HCC rfl (by omega) (wanted_none rfl) (v := Value.bool false) (fun wr hwr => by simp only [execOp, (F11.eval 74 (by omega)).trans (show _ = Value.int .i64 v from by simp [upd, e2, e11, e12, e13, e16]), (F11.eval 78 (by omega)).trans (show _ = Value.int .i64 (l + 1) from by simp [upd, e2, e11, e12, e13, e16])]; simp [go_sem, Act.eval, hv]) fun F12 => ?_
          refine lyp F12 rfl HCC rfl (by omega) (wanted_none rfl) (v := Value.bool false) (fun wr hwr => by simp only [execOp, (F12.eval 70 (by omega)).trans (show _ = Value.bool false from by simp [upd, e2, e11, e12, e13, e16]), (F12.eval 79 (by omega)).trans (show _ = Value.bool false from by simp [upd, e2, e11, e12, e13, e16])]; simp [go_sem, Act.eval]) fun F13 => ?_
          refine lyp F13 rfl HCC rfl (by omega) (wanted_none rfl) (v := Value.bool false) (fun wr hwr => by simp only [execOp, (F13.eval 80 (by omega)).trans (show _ = Value.bool false from by simp [upd, e2, e11, e12, e13, e16])]; first | rfl | simp [go_sem]) fun F14 => ?_
          refine lyp F14 rfl HCC rfl (by omega) (want_yes F14 rfl (e := 81) rfl (by omega) (show _ = Value.bool false from by simp [upd, e2, e11, e12, e13, e16])) (v := Value.int .i64 f) (fun wr hwr => by simp only [execOp, (F14.eval 16 (by omega)).trans (show _ = Value.int .i64 f from by simp [upd, e2, e11, e12, e13, e16])]; first | rfl | simp [go_sem]) fun F15 => ?_
          refine lcp F15 rfl HCC rfl (by omega) (want_yes F15 rfl (e := 81) rfl (by omega) (show _ = Value.bool false from by simp [upd, e2, e11, e12, e13, e16])) (g := 11) (args := #[Value.int .i64 f]) (by simp only [execOp, resolve, invoke, List.map_toArray, List.map_cons, List.map_nil, (F15.eval 82 (by omega)).trans (show _ = Value.int .i64 f from by simp [upd, e2, e11, e12, e13, e16])]; simp [go_sem, Act.eval]) (num_any f _) ?_
          rintro e v4 ⟨rfl, rfl⟩
          refine ⟨_, rfl, fun F16 => ?_⟩
          refine lyp F16 rfl HCC rfl (by omega) (want_yes F16 rfl (e := 81) rfl (by omega) (show _ = Value.bool false from by simp [upd, e2, e11, e12, e13, e16])) (v := Value.bool false) (fun wr hwr => by simp only [execOp, (F16.eval 83 (by omega)).trans (show _ = Value.int .i64 f from by simp [upd, e2, e11, e12, e13, e16])]; simp [go_sem, Act.eval, hf131]) fun F17 => ?_
          refine lyp F17 rfl HCC rfl (by omega) (want_yes F17 rfl (e := 81) rfl (by omega) (show _ = Value.bool false from by simp [upd, e2, e11, e12, e13, e16])) (v := Value.slice (some ⟨b, off, none⟩) N cap) (fun wr hwr => by simp only [execOp, (F17.eval 2 (by omega)).trans (show _ = Value.slice (some ⟨b, off, none⟩) N cap from by simp [upd, e2, e11, e12, e13, e16])]; first | rfl | simp [go_sem]) fun F18 => ?_
          refine lyp F18 rfl HCC rfl (by omega) (want_yes F18 rfl (e := 81) rfl (by omega) (show _ = Value.bool false from by simp [upd, e2, e11, e12, e13, e16])) (v := Value.int .i64 (k : Nat)) (fun wr hwr => by simp only [execOp, (F18.eval 12 (by omega)).trans (show _ = Value.int .i64 (k : Nat) from by simp [upd, e2, e11, e12, e13, e16])]; first | rfl | simp [go_sem]) fun F19 => ?_
          refine lyp F19 rfl HCC rfl (by omega) (want_yes F19 rfl (e := 81) rfl (by omega) (show _ = Value.bool false from by simp [upd, e2, e11, e12, e13, e16])) (v := Value.pointer (some ⟨b, off + k, none⟩)) (fun wr hwr => by simp only [execOp, (F19.eval 85 (by omega)).trans (show _ = Value.slice (some ⟨b, off, none⟩) N cap from by simp [upd, e2, e11, e12, e13, e16]), (F19.eval 86 (by omega)).trans (show _ = Value.int .i64 (k : Nat) from by simp [upd, e2, e11, e12, e13, e16])]; simp only [Sem.run_bind, Sem.run_pure, Result.andThen_ok, idx_run 43 3 1 Try.underlying43 isz3 wr b off N cap k hlt, Nat.zero_add, Nat.mul_one]; try rfl) fun F20 => ?_
          refine lyp F20 rfl HCC rfl (by omega) (want_yes F20 rfl (e := 81) rfl (by omega) (show _ = Value.bool false from by simp [upd, e2, e11, e12, e13, e16])) (v := Value.int .i64 v) (fun wr hwr => by simp only [execOp, (F20.eval 87 (by omega)).trans (show _ = Value.pointer (some ⟨b, off + k, none⟩) from by simp [upd, e2, e11, e12, e13, e16])]; simp [go_sem, hwr.1]) fun F21 => ?_
          refine lyp F21 rfl HCC rfl (by omega) (want_yes F21 rfl (e := 81) rfl (by omega) (show _ = Value.bool false from by simp [upd, e2, e11, e12, e13, e16])) (v := Value.int .i64 (j : Nat)) (fun wr hwr => by simp only [execOp, (F21.eval 13 (by omega)).trans (show _ = Value.int .i64 (j : Nat) from by simp [upd, e2, e11, e12, e13, e16])]; first | rfl | simp [go_sem]) fun F22 => ?_
          refine lyp F22 rfl HCC rfl (by omega) (want_yes F22 rfl (e := 81) rfl (by omega) (show _ = Value.bool false from by simp [upd, e2, e11, e12, e13, e16])) (v := Value.pointer (some ⟨lb, j, none⟩)) (fun wr hwr => by simp only [execOp, (F22.eval 11 (by omega)).trans (show _ = Value.pointer (some ⟨lb, 0, none⟩) from by simp [upd, e2, e11, e12, e13, e16]), (F22.eval 89 (by omega)).trans (show _ = Value.int .i64 (j : Nat) from by simp [upd, e2, e11, e12, e13, e16])]; simp only [Sem.run_bind, Sem.run_pure, Result.andThen_ok, idx44 wr lb 0 j hj64, Nat.zero_add, Nat.mul_one]; try rfl) fun F23 => ?_
          refine lyp F23 rfl HCC rfl (by omega) (want_yes F23 rfl (e := 81) rfl (by omega) (show _ = Value.bool false from by simp [upd, e2, e11, e12, e13, e16])) (v := Value.int .i64 l) (fun wr hwr => by simp only [execOp, (F23.eval 90 (by omega)).trans (show _ = Value.pointer (some ⟨lb, j, none⟩) from by simp [upd, e2, e11, e12, e13, e16])]; simp [go_sem, hwr.2]) fun F24 => ?_
          refine lyp F24 rfl HCC rfl (by omega) (want_yes F24 rfl (e := 81) rfl (by omega) (show _ = Value.bool false from by simp [upd, e2, e11, e12, e13, e16])) (v := Value.int .i64 (l + 1)) (fun wr hwr => by simp only [execOp, (F24.eval 91 (by omega)).trans (show _ = Value.int .i64 l from by simp [upd, e2, e11, e12, e13, e16])]; simp [go_sem, Act.eval, show IntKind.i64.wrap (l + 1) = l + 1 from by rw [IntKind.wrap_i64]; omega]) fun F25 => ?_
          refine lyp F25 rfl HCC rfl (by omega) (want_yes F25 rfl (e := 81) rfl (by omega) (show _ = Value.bool false from by simp [upd, e2, e11, e12, e13, e16])) (v := Value.bool true) (fun wr hwr => by simp only [execOp, (F25.eval 88 (by omega)).trans (show _ = Value.int .i64 v from by simp [upd, e2, e11, e12, e13, e16]), (F25.eval 92 (by omega)).trans (show _ = Value.int .i64 (l + 1) from by simp [upd, e2, e11, e12, e13, e16])]; simp [go_sem, Act.eval, hgt]) fun F26 => ?_
          refine lyp F26 rfl HCC rfl (by omega) (want_yes F26 rfl (e := 81) rfl (by omega) (show _ = Value.bool false from by simp [upd, e2, e11, e12, e13, e16])) (v := Value.bool true) (fun wr hwr => by simp only [execOp, (F26.eval 93 (by omega)).trans (show _ = Value.bool true from by simp [upd, e2, e11, e12, e13, e16])]; first | rfl | simp [go_sem]) fun F27 => ?_
          refine lyp F27 rfl HCC rfl (by omega) (want_yes F27 rfl (e := 94) rfl (by omega) (show _ = Value.bool true from by simp [upd, e2, e11, e12, e13, e16])) (v := Value.slice (some ⟨b, off, none⟩) N cap) (fun wr hwr => by simp only [execOp, (F27.eval 2 (by omega)).trans (show _ = Value.slice (some ⟨b, off, none⟩) N cap from by simp [upd, e2, e11, e12, e13, e16])]; first | rfl | simp [go_sem]) fun F28 => ?_
          refine lyp F28 rfl HCC rfl (by omega) (want_yes F28 rfl (e := 94) rfl (by omega) (show _ = Value.bool true from by simp [upd, e2, e11, e12, e13, e16])) (v := Value.int .i64 (k : Nat)) (fun wr hwr => by simp only [execOp, (F28.eval 12 (by omega)).trans (show _ = Value.int .i64 (k : Nat) from by simp [upd, e2, e11, e12, e13, e16])]; first | rfl | simp [go_sem]) fun F29 => ?_
          refine lyp F29 rfl HCC rfl (by omega) (want_yes F29 rfl (e := 94) rfl (by omega) (show _ = Value.bool true from by simp [upd, e2, e11, e12, e13, e16])) (v := Value.pointer (some ⟨b, off + k, none⟩)) (fun wr hwr => by simp only [execOp, (F29.eval 95 (by omega)).trans (show _ = Value.slice (some ⟨b, off, none⟩) N cap from by simp [upd, e2, e11, e12, e13, e16]), (F29.eval 96 (by omega)).trans (show _ = Value.int .i64 (k : Nat) from by simp [upd, e2, e11, e12, e13, e16])]; simp only [Sem.run_bind, Sem.run_pure, Result.andThen_ok, idx_run 43 3 1 Try.underlying43 isz3 wr b off N cap k hlt, Nat.zero_add, Nat.mul_one]; try rfl) fun F30 => ?_
          refine lyp F30 rfl HCC rfl (by omega) (want_yes F30 rfl (e := 94) rfl (by omega) (show _ = Value.bool true from by simp [upd, e2, e11, e12, e13, e16])) (v := Value.int .i64 v) (fun wr hwr => by simp only [execOp, (F30.eval 97 (by omega)).trans (show _ = Value.pointer (some ⟨b, off + k, none⟩) from by simp [upd, e2, e11, e12, e13, e16])]; simp [go_sem, hwr.1]) fun F31 => ?_
          refine lyp F31 rfl HCC rfl (by omega) (want_yes F31 rfl (e := 94) rfl (by omega) (show _ = Value.bool true from by simp [upd, e2, e11, e12, e13, e16])) (v := Value.bool false) (fun wr hwr => by simp only [execOp, (F31.eval 98 (by omega)).trans (show _ = Value.int .i64 v from by simp [upd, e2, e11, e12, e13, e16])]; simp [go_sem, Act.eval, hle]) fun F32 => ?_
          refine lyp F32 rfl HCC rfl (by omega) (want_yes F32 rfl (e := 81) rfl (by omega) (show _ = Value.bool false from by simp [upd, e2, e11, e12, e13, e16])) (v := Value.bool false) (fun wr hwr => by simp only [execOp, (F32.eval 94 (by omega)).trans (show _ = Value.bool true from by simp [upd, e2, e11, e12, e13, e16]), (F32.eval 99 (by omega)).trans (show _ = Value.bool false from by simp [upd, e2, e11, e12, e13, e16])]; simp [go_sem, Act.eval]) fun F33 => ?_
          refine lyp F33 rfl HCC rfl (by omega) (want_yes F33 rfl (e := 81) rfl (by omega) (show _ = Value.bool false from by simp [upd, e2, e11, e12, e13, e16])) (v := Value.bool false) (fun wr hwr => by simp only [execOp, (F33.eval 84 (by omega)).trans (show _ = Value.bool false from by simp [upd, e2, e11, e12, e13, e16]), (F33.eval 100 (by omega)).trans (show _ = Value.bool false from by simp [upd, e2, e11, e12, e13, e16])]; simp [go_sem, Act.eval]) fun F34 => ?_
          refine lyp F34 rfl HCC rfl (by omega) (wanted_none rfl) (v := Value.bool false) (fun wr hwr => by simp only [execOp, (F34.eval 81 (by omega)).trans (show _ = Value.bool false from by simp [upd, e2, e11, e12, e13, e16]), (F34.eval 101 (by omega)).trans (show _ = Value.bool false from by simp [upd, e2, e11, e12, e13, e16])]; simp [go_sem, Act.eval]) fun F35 => ?_
          refine ⟨fun _ => HCC, ?_⟩
          refine hK _ _ ?_
          clear F0 F1 F2 F3 F4 F5 F6 F7 F8 F9 F10 F11 F12 F13 F14 F15 F16 F17 F18 F19 F20 F21 F22 F23 F24 F25 F26 F27 F28 F29 F30 F31 F32 F33 F34 F35 e2 e11 e12 e13 e16 HCC
          simp only [Act.put, List.setIfInBounds_toArray, List.set_cons_succ, List.set_cons_zero]
          obtain ⟨Y, hY⟩ : ∃ Y : World, Y = ({ X with drawn := X.drawn + 1 } : World) := ⟨_, rfl⟩
          have hbY : Below X.heap.size X Y := by rw [hY]; exact Below.drew (Below.refl _ _)
          have HMY : Hid (CM a (begX a x j v) Y) := HMX.out.more hbY
          have HBY : Hid (Blk Y lb C 44) := HB.out.below hbY HB.out.lt
          have HBLY : Hid (Below w.heap.size w Y) := HBX.out.trans (hbY.mono HBX.out.size)
          have hcy : Y.cell? ⟨lb, j, none⟩ = some (.int .i64 l) := by rw [hY]; exact HCL.out
          have hfz : Y.frozen? ⟨lb, j, none⟩ = false := HBY.out.frozen j
          rw [← hY]
          clear hY hbY HMX HB HBX HCL
          go_wp2_with fail
          refine Calls.mono (num_any f Y) ?_
          rintro e w6 ⟨rfl, hw6⟩
          replace hw6 := hw6.symm
          subst hw6
          go_wp2_with fail
          obtain ⟨V, hV⟩ : ∃ V : World, V = Y := ⟨_, rfl⟩
          obtain ⟨l', hl'⟩ : ∃ l' : Int, l' = l := ⟨_, rfl⟩
          obtain ⟨x', hx'⟩ : ∃ x' : CX, x' = x := ⟨_, rfl⟩
          obtain ⟨C', hC'⟩ : ∃ C' : Array Value, C' = C := ⟨_, rfl⟩
          have HNX : Hid (∀ W, Below V.heap.size V W → OrdS a lb C' x' (k + 1) w W ∧ x'.la j = l') := fun W hW => by
            have hm := HMY.out
            rw [show begX a x j v = x from if_neg (fun hh => hv (by rw [HLD.out]; exact hh.2.2.2))] at hm
            rw [hV] at hW
            rw [hC', hx', hl']
            exact ⟨HO.out.keep (hm.more hW) (HBY.out.below hW HBY.out.lt) (HBLY.out.trans (hW.mono HBLY.out.size)), HLD.out.symm⟩
          rw [← hV]
          clear HMY HBY HBLY hcy
          have HCY : Hid (V.cell? ⟨lb, j, none⟩ = some (.int .i64 l')) := show V.cell? ⟨lb, j, none⟩ = some (.int .i64 l') from by
            obtain ⟨q1, q2⟩ := HNX.out V (Below.refl _ _)
            rw [← q2]
            exact q1.cellAt q1.b j hj64
          have HLS : Hid (∀ W, Below V.heap.size V W → Calls Try.prog 14 #[.pointer (some ⟨a.cb, 0, none⟩), .int .i64 (j : Nat)] W fun e w' => e = .returned (.int .i64 l') ∧ Below W.heap.size W w') := fun W hW => by
            obtain ⟨q1, q2⟩ := HNX.out W hW
            have := last_any (j : Int) W q1.m ⟨by omega, by omega⟩
            rw [show lastA a x' j = l' from by unfold lastA; rw [if_pos HMI.out, q2]] at this
            exact this
          clear hx' hC' hl' HLD
          clear hV HO
          rename_i K2 hK2
          try rw [show ∀ a : Act, a.put none undef = a from fun _ => rfl]
          refine wp_region_mix (fun wq => wq.cell? ⟨lb, j, none⟩ = some (.int .i64 l')) (fun i => i == 2 || i == 99) 99 (by kernel_rfl) rfl (by kernel_rfl) (by kernel_rfl) (by kernel_rfl) ?_
          refine withFrP (N := 118) rfl ?_
          intro f0 F0 hff
          have e9 : f0 9 = Value.pointer (some ⟨a.cb, 0, none⟩) := hff 9
          have e11 : f0 11 = Value.pointer (some ⟨lb, 0, none⟩) := hff 11
          have e13 : f0 13 = Value.int .i64 (j : Nat) := hff 13
          clear hff
          have HCC : (fun wq => wq.cell? ⟨lb, j, none⟩ = some (.int .i64 l')) (({ V with drawn := V.drawn + 1 } : World)) := HCY.out
          refine lyp F0 rfl HCC rfl (by omega) (wanted_none rfl) (v := Value.pointer (some ⟨a.cb, 0, none⟩)) (fun wr hwr => by simp only [execOp, (F0.eval 9 (by omega)).trans (show _ = Value.pointer (some ⟨a.cb, 0, none⟩) from by simp [upd, e9, e11, e13])]; first | rfl | simp [go_sem]) fun F1 => ?_
          refine lyp F1 rfl HCC rfl (by omega) (wanted_none rfl) (v := Value.int .i64 (j : Nat)) (fun wr hwr => by simp only [execOp, (F1.eval 13 (by omega)).trans (show _ = Value.int .i64 (j : Nat) from by simp [upd, e9, e11, e13])]; first | rfl | simp [go_sem]) fun F2 => ?_
          refine lcp F2 rfl HCC rfl (by omega) (wanted_none rfl) (g := 14) (args := #[Value.pointer (some ⟨a.cb, 0, none⟩), Value.int .i64 (j : Nat)]) (by simp only [execOp, resolve, invoke, List.map_toArray, List.map_cons, List.map_nil, (F2.eval 111 (by omega)).trans (show _ = Value.pointer (some ⟨a.cb, 0, none⟩) from by simp [upd, e9, e11, e13]), (F2.eval 112 (by omega)).trans (show _ = Value.int .i64 (j : Nat) from by simp [upd, e9, e11, e13])]; simp [go_sem, Act.eval]) (HLS.out ({ V with drawn := V.drawn + 1 } : World) (Below.drew (Below.refl _ _))) ?_
          rintro e v5 ⟨rfl, hb5⟩
          have HC5 : (fun wq => wq.cell? ⟨lb, j, none⟩ = some (.int .i64 l')) v5 := (hb5.cell (p := ⟨lb, j, none⟩) (World.block_lt_of_cell? _ _ HCC)).trans HCC
          refine ⟨_, rfl, fun F3 => ?_⟩
          refine lyp F3 rfl HC5 rfl (by omega) (wanted_none rfl) (v := Value.int .i64 (j : Nat)) (fun wr hwr => by simp only [execOp, (F3.eval 13 (by omega)).trans (show _ = Value.int .i64 (j : Nat) from by simp [upd, e9, e11, e13])]; first | rfl | simp [go_sem]) fun F4 => ?_
          refine lyp F4 rfl HC5 rfl (by omega) (wanted_none rfl) (v := Value.pointer (some ⟨lb, j, none⟩)) (fun wr hwr => by simp only [execOp, (F4.eval 11 (by omega)).trans (show _ = Value.pointer (some ⟨lb, 0, none⟩) from by simp [upd, e9, e11, e13]), (F4.eval 114 (by omega)).trans (show _ = Value.int .i64 (j : Nat) from by simp [upd, e9, e11, e13])]; simp only [Sem.run_bind, Sem.run_pure, Result.andThen_ok, idx44 wr lb 0 j hj64, Nat.zero_add, Nat.mul_one]; try rfl) fun F5 => ?_
          refine lyp F5 rfl HC5 rfl (by omega) (wanted_none rfl) (v := Value.int .i64 l') (fun wr hwr => by simp only [execOp, (F5.eval 115 (by omega)).trans (show _ = Value.pointer (some ⟨lb, j, none⟩) from by simp [upd, e9, e11, e13])]; simp [go_sem, hwr]) fun F6 => ?_
          refine lyp F6 rfl HC5 rfl (by omega) (wanted_none rfl) (v := Value.bool false) (fun wr hwr => by simp only [execOp, (F6.eval 113 (by omega)).trans (show _ = Value.int .i64 l' from by simp [upd, e9, e11, e13]), (F6.eval 116 (by omega)).trans (show _ = Value.int .i64 l' from by simp [upd, e9, e11, e13])]; simp [go_sem, Act.eval]) fun F7 => ?_
          refine ⟨fun _ => HC5, ?_⟩
          refine hK2 _ _ ?_
          clear F0 F1 F2 F3 F4 F5 F6 F7 e9 e11 e13 HCC HC5
          simp only [Act.put, List.setIfInBounds_toArray, List.set_cons_succ, List.set_cons_zero]
          have HFI : Hid (OrdS a lb C' x' (k + 1) w v5) := (HNX.out v5 ((Below.drew (Below.refl _ _)).trans hb5)).1
          clear hb5 HNX HLS HCY
          go_wp2_with fail
          go_roundw
          case rel => exact ⟨k + 1, C', x', by omega, by go_num, HFI.out⟩
          case measure => simp [intOf]; omega

      · obtain ⟨f, hff⟩ : ∃ f, f = ordF l v := ⟨_, rfl⟩
        have hf : f = 1 ∨ f = 133 := by rw [hff]; unfold ordF; rw [if_neg hgt, if_neg hv]; split <;> simp
        have hf0 : ¬ f = 0 := by omega
        have hf131 : ¬ f = 131 := by omega
        rw [← hff]
        clear hff
        clear hf
        go_wp2_with fail
        rw [← hX]
        clear hX
        rename_i K hK
        try rw [show ∀ a : Act, a.put none undef = a from fun _ => rfl]
        refine wp_region_mix (fun wq => wq.cell? ⟨b, off + k, none⟩ = some (.int .i64 v) ∧ wq.cell? ⟨lb, j, none⟩ = some (.int .i64 l)) (fun i => i == 1 || i == 15 || i == 99) 99 (by kernel_rfl) rfl (by kernel_rfl) (by kernel_rfl) (by kernel_rfl) ?_
        refine withFrP (N := 118) rfl ?_
        intro f0 F0 hff
        have e2 : f0 2 = Value.slice (some ⟨b, off, none⟩) N cap := hff 2
        have e11 : f0 11 = Value.pointer (some ⟨lb, 0, none⟩) := hff 11
        have e12 : f0 12 = Value.int .i64 (k : Nat) := hff 12
        have e13 : f0 13 = Value.int .i64 (j : Nat) := hff 13
        have e16 : f0 16 = Value.int .i64 f := hff 16
        clear hff
        have HCC : (fun wq => wq.cell? ⟨b, off + k, none⟩ = some (.int .i64 v) ∧ wq.cell? ⟨lb, j, none⟩ = some (.int .i64 l)) (({ X with drawn := X.drawn + 1 } : World)) := ⟨HI.out _ (Below.drew HBX.out), HCL.out⟩
        refine lyp F0 rfl HCC rfl (by omega) (wanted_none rfl) (v := Value.int .i64 f) (fun wr hwr => by simp only [execOp, (F0.eval 16 (by omega)).trans (show _ = Value.int .i64 f from by simp [upd, e2, e11, e12, e13, e16])]; first | rfl | simp [go_sem]) fun F1 => ?_
        refine lcp F1 rfl HCC rfl (by omega) (wanted_none rfl) (g := 11) (args := #[Value.int .i64 f]) (by simp only [execOp, resolve, invoke, List.map_toArray, List.map_cons, List.map_nil, (F1.eval 68 (by omega)).trans (show _ = Value.int .i64 f from by simp [upd, e2, e11, e12, e13, e16])]; simp [go_sem, Act.eval]) (num_any f _) ?_
        rintro e v3 ⟨rfl, rfl⟩
        refine ⟨_, rfl, fun F2 => ?_⟩
        refine lyp F2 rfl HCC rfl (by omega) (wanted_none rfl) (v := Value.bool false) (fun wr hwr => by simp only [execOp, (F2.eval 69 (by omega)).trans (show _ = Value.int .i64 f from by simp [upd, e2, e11, e12, e13, e16])]; simp [go_sem, Act.eval, hf0]) fun F3 => ?_
        refine lyp F3 rfl HCC rfl (by omega) (wanted_none rfl) (v := Value.slice (some ⟨b, off, none⟩) N cap) (fun wr hwr => by simp only [execOp, (F3.eval 2 (by omega)).trans (show _ = Value.slice (some ⟨b, off, none⟩) N cap from by simp [upd, e2, e11, e12, e13, e16])]; first | rfl | simp [go_sem]) fun F4 => ?_
        refine lyp F4 rfl HCC rfl (by omega) (wanted_none rfl) (v := Value.int .i64 (k : Nat)) (fun wr hwr => by simp only [execOp, (F4.eval 12 (by omega)).trans (show _ = Value.int .i64 (k : Nat) from by simp [upd, e2, e11, e12, e13, e16])]; first | rfl | simp [go_sem]) fun F5 => ?_
        refine lyp F5 rfl HCC rfl (by omega) (wanted_none rfl) (v := Value.pointer (some ⟨b, off + k, none⟩)) (fun wr hwr => by simp only [execOp, (F5.eval 71 (by omega)).trans (show _ = Value.slice (some ⟨b, off, none⟩) N cap from by simp [upd, e2, e11, e12, e13, e16]), (F5.eval 72 (by omega)).trans (show _ = Value.int .i64 (k : Nat) from by simp [upd, e2, e11, e12, e13, e16])]; simp only [Sem.run_bind, Sem.run_pure, Result.andThen_ok, idx_run 43 3 1 Try.underlying43 isz3 wr b off N cap k hlt, Nat.zero_add, Nat.mul_one]; try rfl) fun F6 => ?_
        refine lyp F6 rfl HCC rfl (by omega) (wanted_none rfl) (v := Value.int .i64 v) (fun wr hwr => by simp only [execOp, (F6.eval 73 (by omega)).trans (show _ = Value.pointer (some ⟨b, off + k, none⟩) from by simp [upd, e2, e11, e12, e13, e16])]; simp [go_sem, hwr.1]) fun F7 => ?_
        refine lyp F7 rfl HCC rfl (by omega) (wanted_none rfl) (v := Value.int .i64 (j : Nat)) (fun wr hwr => by simp only [execOp, (F7.eval 13 (by omega)).trans (show _ = Value.int .i64 (j : Nat) from by simp [upd, e2, e11, e12, e13, e16])]; first | rfl | simp [go_sem]) fun F8 => ?_
        refine lyp F8 rfl HCC rfl (by omega) (wanted_none rfl) (v := Value.pointer (some ⟨lb, j, none⟩)) (fun wr hwr => by simp only [execOp, (F8.eval 11 (by omega)).trans (show _ = Value.pointer (some ⟨lb, 0, none⟩) from by simp [upd, e2, e11, e12, e13, e16]), (F8.eval 75 (by omega)).trans (show _ = Value.int .i64 (j : Nat) from by simp [upd, e2, e11, e12, e13, e16])]; simp only [Sem.run_bind, Sem.run_pure, Result.andThen_ok, idx44 wr lb 0 j hj64, Nat.zero_add, Nat.mul_one]; try rfl) fun F9 => ?_
        refine lyp F9 rfl HCC rfl (by omega) (wanted_none rfl) (v := Value.int .i64 l) (fun wr hwr => by simp only [execOp, (F9.eval 76 (by omega)).trans (show _ = Value.pointer (some ⟨lb, j, none⟩) from by simp [upd, e2, e11, e12, e13, e16])]; simp [go_sem, hwr.2]) fun F10 => ?_
        refine lyp F10 rfl HCC rfl (by omega) (wanted_none rfl) (v := Value.int .i64 (l + 1)) (fun wr hwr => by simp only [execOp, (F10.eval 77 (by omega)).trans (show _ = Value.int .i64 l from by simp [upd, e2, e11, e12, e13, e16])]; simp [go_sem, Act.eval, show IntKind.i64.wrap (l + 1) = l + 1 from by rw [IntKind.wrap_i64]; omega]) fun F11 => ?_
        refine lyp F11 rfl HCC rfl (by omega) (wanted_none rfl) (v := Value.bool false) (fun wr hwr => by simp only [execOp, (F11.eval 74 (by omega)).trans (show _ = Value.int .i64 v from by simp [upd, e2, e11, e12, e13, e16]), (F11.eval 78 (by omega)).trans (show _ = Value.int .i64 (l + 1) from by simp [upd, e2, e11, e12, e13, e16])]; simp [go_sem, Act.eval, hv]) fun F12 => ?_
        refine lyp F12 rfl HCC rfl (by omega) (wanted_none rfl) (v := Value.bool false) (fun wr hwr => by simp only [execOp, (F12.eval 70 (by omega)).trans (show _ = Value.bool false from by simp [upd, e2, e11, e12, e13, e16]), (F12.eval 79 (by omega)).trans (show _ = Value.bool false from by simp [upd, e2, e11, e12, e13, e16])]; simp [go_sem, Act.eval]) fun F13 => ?_
        refine lyp F13 rfl HCC rfl (by omega) (wanted_none rfl) (v := Value.bool false) (fun wr hwr => by simp only [execOp, (F13.eval 80 (by omega)).trans (show _ = Value.bool false from by simp [upd, e2, e11, e12, e13, e16])]; first | rfl | simp [go_sem]) fun F14 => ?_
        refine lyp F14 rfl HCC rfl (by omega) (want_yes F14 rfl (e := 81) rfl (by omega) (show _ = Value.bool false from by simp [upd, e2, e11, e12, e13, e16])) (v := Value.int .i64 f) (fun wr hwr => by simp only [execOp, (F14.eval 16 (by omega)).trans (show _ = Value.int .i64 f from by simp [upd, e2, e11, e12, e13, e16])]; first | rfl | simp [go_sem]) fun F15 => ?_
        refine lcp F15 rfl HCC rfl (by omega) (want_yes F15 rfl (e := 81) rfl (by omega) (show _ = Value.bool false from by simp [upd, e2, e11, e12, e13, e16])) (g := 11) (args := #[Value.int .i64 f]) (by simp only [execOp, resolve, invoke, List.map_toArray, List.map_cons, List.map_nil, (F15.eval 82 (by omega)).trans (show _ = Value.int .i64 f from by simp [upd, e2, e11, e12, e13, e16])]; simp [go_sem, Act.eval]) (num_any f _) ?_
        rintro e v4 ⟨rfl, rfl⟩
        refine ⟨_, rfl, fun F16 => ?_⟩
        refine lyp F16 rfl HCC rfl (by omega) (want_yes F16 rfl (e := 81) rfl (by omega) (show _ = Value.bool false from by simp [upd, e2, e11, e12, e13, e16])) (v := Value.bool false) (fun wr hwr => by simp only [execOp, (F16.eval 83 (by omega)).trans (show _ = Value.int .i64 f from by simp [upd, e2, e11, e12, e13, e16])]; simp [go_sem, Act.eval, hf131]) fun F17 => ?_
        refine lyp F17 rfl HCC rfl (by omega) (want_yes F17 rfl (e := 81) rfl (by omega) (show _ = Value.bool false from by simp [upd, e2, e11, e12, e13, e16])) (v := Value.slice (some ⟨b, off, none⟩) N cap) (fun wr hwr => by simp only [execOp, (F17.eval 2 (by omega)).trans (show _ = Value.slice (some ⟨b, off, none⟩) N cap from by simp [upd, e2, e11, e12, e13, e16])]; first | rfl | simp [go_sem]) fun F18 => ?_
        refine lyp F18 rfl HCC rfl (by omega) (want_yes F18 rfl (e := 81) rfl (by omega) (show _ = Value.bool false from by simp [upd, e2, e11, e12, e13, e16])) (v := Value.int .i64 (k : Nat)) (fun wr hwr => by simp only [execOp, (F18.eval 12 (by omega)).trans (show _ = Value.int .i64 (k : Nat) from by simp [upd, e2, e11, e12, e13, e16])]; first | rfl | simp [go_sem]) fun F19 => ?_
        refine lyp F19 rfl HCC rfl (by omega) (want_yes F19 rfl (e := 81) rfl (by omega) (show _ = Value.bool false from by simp [upd, e2, e11, e12, e13, e16])) (v := Value.pointer (some ⟨b, off + k, none⟩)) (fun wr hwr => by simp only [execOp, (F19.eval 85 (by omega)).trans (show _ = Value.slice (some ⟨b, off, none⟩) N cap from by simp [upd, e2, e11, e12, e13, e16]), (F19.eval 86 (by omega)).trans (show _ = Value.int .i64 (k : Nat) from by simp [upd, e2, e11, e12, e13, e16])]; simp only [Sem.run_bind, Sem.run_pure, Result.andThen_ok, idx_run 43 3 1 Try.underlying43 isz3 wr b off N cap k hlt, Nat.zero_add, Nat.mul_one]; try rfl) fun F20 => ?_
        refine lyp F20 rfl HCC rfl (by omega) (want_yes F20 rfl (e := 81) rfl (by omega) (show _ = Value.bool false from by simp [upd, e2, e11, e12, e13, e16])) (v := Value.int .i64 v) (fun wr hwr => by simp only [execOp, (F20.eval 87 (by omega)).trans (show _ = Value.pointer (some ⟨b, off + k, none⟩) from by simp [upd, e2, e11, e12, e13, e16])]; simp [go_sem, hwr.1]) fun F21 => ?_
        refine lyp F21 rfl HCC rfl (by omega) (want_yes F21 rfl (e := 81) rfl (by omega) (show _ = Value.bool false from by simp [upd, e2, e11, e12, e13, e16])) (v := Value.int .i64 (j : Nat)) (fun wr hwr => by simp only [execOp, (F21.eval 13 (by omega)).trans (show _ = Value.int .i64 (j : Nat) from by simp [upd, e2, e11, e12, e13, e16])]; first | rfl | simp [go_sem]) fun F22 => ?_
        refine lyp F22 rfl HCC rfl (by omega) (want_yes F22 rfl (e := 81) rfl (by omega) (show _ = Value.bool false from by simp [upd, e2, e11, e12, e13, e16])) (v := Value.pointer (some ⟨lb, j, none⟩)) (fun wr hwr => by simp only [execOp, (F22.eval 11 (by omega)).trans (show _ = Value.pointer (some ⟨lb, 0, none⟩) from by simp [upd, e2, e11, e12, e13, e16]), (F22.eval 89 (by omega)).trans (show _ = Value.int .i64 (j : Nat) from by simp [upd, e2, e11, e12, e13, e16])]; simp only [Sem.run_bind, Sem.run_pure, Result.andThen_ok, idx44 wr lb 0 j hj64, Nat.zero_add, Nat.mul_one]; try rfl) fun F23 => ?_
        refine lyp F23 rfl HCC rfl (by omega) (want_yes F23 rfl (e := 81) rfl (by omega) (show _ = Value.bool false from by simp [upd, e2, e11, e12, e13, e16])) (v := Value.int .i64 l) (fun wr hwr => by simp only [execOp, (F23.eval 90 (by omega)).trans (show _ = Value.pointer (some ⟨lb, j, none⟩) from by simp [upd, e2, e11, e12, e13, e16])]; simp [go_sem, hwr.2]) fun F24 => ?_
        refine lyp F24 rfl HCC rfl (by omega) (want_yes F24 rfl (e := 81) rfl (by omega) (show _ = Value.bool false from by simp [upd, e2, e11, e12, e13, e16])) (v := Value.int .i64 (l + 1)) (fun wr hwr => by simp only [execOp, (F24.eval 91 (by omega)).trans (show _ = Value.int .i64 l from by simp [upd, e2, e11, e12, e13, e16])]; simp [go_sem, Act.eval, show IntKind.i64.wrap (l + 1) = l + 1 from by rw [IntKind.wrap_i64]; omega]) fun F25 => ?_
        refine lyp F25 rfl HCC rfl (by omega) (want_yes F25 rfl (e := 81) rfl (by omega) (show _ = Value.bool false from by simp [upd, e2, e11, e12, e13, e16])) (v := Value.bool false) (fun wr hwr => by simp only [execOp, (F25.eval 88 (by omega)).trans (show _ = Value.int .i64 v from by simp [upd, e2, e11, e12, e13, e16]), (F25.eval 92 (by omega)).trans (show _ = Value.int .i64 (l + 1) from by simp [upd, e2, e11, e12, e13, e16])]; simp [go_sem, Act.eval, hgt]) fun F26 => ?_
        refine lyp F26 rfl HCC rfl (by omega) (want_yes F26 rfl (e := 81) rfl (by omega) (show _ = Value.bool false from by simp [upd, e2, e11, e12, e13, e16])) (v := Value.bool false) (fun wr hwr => by simp only [execOp, (F26.eval 93 (by omega)).trans (show _ = Value.bool false from by simp [upd, e2, e11, e12, e13, e16])]; first | rfl | simp [go_sem]) fun F27 => ?_
        refine lnp F27 rfl HCC rfl (by omega) (want_no F27 rfl (e := 94) rfl (by omega) (show _ = Value.bool false from by simp [upd, e2, e11, e12, e13, e16]) (by decide)) fun F28 => ?_
        refine lnp F28 rfl HCC rfl (by omega) (want_no F28 rfl (e := 94) rfl (by omega) (show _ = Value.bool false from by simp [upd, e2, e11, e12, e13, e16]) (by decide)) fun F29 => ?_
        refine lnp F29 rfl HCC rfl (by omega) (want_no F29 rfl (e := 94) rfl (by omega) (show _ = Value.bool false from by simp [upd, e2, e11, e12, e13, e16]) (by decide)) fun F30 => ?_
        refine lnp F30 rfl HCC rfl (by omega) (want_no F30 rfl (e := 94) rfl (by omega) (show _ = Value.bool false from by simp [upd, e2, e11, e12, e13, e16]) (by decide)) fun F31 => ?_
        refine lnp F31 rfl HCC rfl (by omega) (want_no F31 rfl (e := 94) rfl (by omega) (show _ = Value.bool false from by simp [upd, e2, e11, e12, e13, e16]) (by decide)) fun F32 => ?_
        refine lyp F32 rfl HCC rfl (by omega) (want_yes F32 rfl (e := 81) rfl (by omega) (show _ = Value.bool false from by simp [upd, e2, e11, e12, e13, e16])) (v := Value.bool false) (fun wr hwr => by simp only [execOp, (F32.eval 94 (by omega)).trans (show _ = Value.bool false from by simp [upd, e2, e11, e12, e13, e16])]; simp [go_sem, Act.eval]) fun F33 => ?_
        refine lyp F33 rfl HCC rfl (by omega) (want_yes F33 rfl (e := 81) rfl (by omega) (show _ = Value.bool false from by simp [upd, e2, e11, e12, e13, e16])) (v := Value.bool false) (fun wr hwr => by simp only [execOp, (F33.eval 84 (by omega)).trans (show _ = Value.bool false from by simp [upd, e2, e11, e12, e13, e16]), (F33.eval 100 (by omega)).trans (show _ = Value.bool false from by simp [upd, e2, e11, e12, e13, e16])]; simp [go_sem, Act.eval]) fun F34 => ?_
        refine lyp F34 rfl HCC rfl (by omega) (wanted_none rfl) (v := Value.bool false) (fun wr hwr => by simp only [execOp, (F34.eval 81 (by omega)).trans (show _ = Value.bool false from by simp [upd, e2, e11, e12, e13, e16]), (F34.eval 101 (by omega)).trans (show _ = Value.bool false from by simp [upd, e2, e11, e12, e13, e16])]; simp [go_sem, Act.eval]) fun F35 => ?_
        refine ⟨fun _ => HCC, ?_⟩
        refine hK _ _ ?_
        clear F0 F1 F2 F3 F4 F5 F6 F7 F8 F9 F10 F11 F12 F13 F14 F15 F16 F17 F18 F19 F20 F21 F22 F23 F24 F25 F26 F27 F28 F29 F30 F31 F32 F33 F34 F35 e2 e11 e12 e13 e16 HCC
        simp only [Act.put, List.setIfInBounds_toArray, List.set_cons_succ, List.set_cons_zero]
        obtain ⟨Y, hY⟩ : ∃ Y : World, Y = ({ X with drawn := X.drawn + 1 } : World) := ⟨_, rfl⟩
        have hbY : Below X.heap.size X Y := by rw [hY]; exact Below.drew (Below.refl _ _)
        have HMY : Hid (CM a (begX a x j v) Y) := HMX.out.more hbY
        have HBY : Hid (Blk Y lb C 44) := HB.out.below hbY HB.out.lt
        have HBLY : Hid (Below w.heap.size w Y) := HBX.out.trans (hbY.mono HBX.out.size)
        have hcy : Y.cell? ⟨lb, j, none⟩ = some (.int .i64 l) := by rw [hY]; exact HCL.out
        have hfz : Y.frozen? ⟨lb, j, none⟩ = false := HBY.out.frozen j
        rw [← hY]
        clear hY hbY HMX HB HBX HCL
        go_wp2_with fail
        refine Calls.mono (num_any f Y) ?_
        rintro e w6 ⟨rfl, hw6⟩
        replace hw6 := hw6.symm
        subst hw6
        go_wp2_with fail
        obtain ⟨V, hV⟩ : ∃ V : World, V = Y := ⟨_, rfl⟩
        obtain ⟨l', hl'⟩ : ∃ l' : Int, l' = l := ⟨_, rfl⟩
        obtain ⟨x', hx'⟩ : ∃ x' : CX, x' = x := ⟨_, rfl⟩
        obtain ⟨C', hC'⟩ : ∃ C' : Array Value, C' = C := ⟨_, rfl⟩
        have HNX : Hid (∀ W, Below V.heap.size V W → OrdS a lb C' x' (k + 1) w W ∧ x'.la j = l') := fun W hW => by
          have hm := HMY.out
          rw [show begX a x j v = x from if_neg (fun hh => hv (by rw [HLD.out]; exact hh.2.2.2))] at hm
          rw [hV] at hW
          rw [hC', hx', hl']
          exact ⟨HO.out.keep (hm.more hW) (HBY.out.below hW HBY.out.lt) (HBLY.out.trans (hW.mono HBLY.out.size)), HLD.out.symm⟩
        rw [← hV]
        clear HMY HBY HBLY hcy
        have HCY : Hid (V.cell? ⟨lb, j, none⟩ = some (.int .i64 l')) := show V.cell? ⟨lb, j, none⟩ = some (.int .i64 l') from by
          obtain ⟨q1, q2⟩ := HNX.out V (Below.refl _ _)
          rw [← q2]
          exact q1.cellAt q1.b j hj64
        have HLS : Hid (∀ W, Below V.heap.size V W → Calls Try.prog 14 #[.pointer (some ⟨a.cb, 0, none⟩), .int .i64 (j : Nat)] W fun e w' => e = .returned (.int .i64 l') ∧ Below W.heap.size W w') := fun W hW => by
          obtain ⟨q1, q2⟩ := HNX.out W hW
          have := last_any (j : Int) W q1.m ⟨by omega, by omega⟩
          rw [show lastA a x' j = l' from by unfold lastA; rw [if_pos HMI.out, q2]] at this
          exact this
        clear hx' hC' hl' HLD
        clear hV HO
        rename_i K2 hK2
        try rw [show ∀ a : Act, a.put none undef = a from fun _ => rfl]
        refine wp_region_mix (fun wq => wq.cell? ⟨lb, j, none⟩ = some (.int .i64 l')) (fun i => i == 2 || i == 99) 99 (by kernel_rfl) rfl (by kernel_rfl) (by kernel_rfl) (by kernel_rfl) ?_
        refine withFrP (N := 118) rfl ?_
        intro f0 F0 hff
        have e9 : f0 9 = Value.pointer (some ⟨a.cb, 0, none⟩) := hff 9
        have e11 : f0 11 = Value.pointer (some ⟨lb, 0, none⟩) := hff 11
        have e13 : f0 13 = Value.int .i64 (j : Nat) := hff 13
        clear hff
        have HCC : (fun wq => wq.cell? ⟨lb, j, none⟩ = some (.int .i64 l')) (({ V with drawn := V.drawn + 1 } : World)) := HCY.out
        refine lyp F0 rfl HCC rfl (by omega) (wanted_none rfl) (v := Value.pointer (some ⟨a.cb, 0, none⟩)) (fun wr hwr => by simp only [execOp, (F0.eval 9 (by omega)).trans (show _ = Value.pointer (some ⟨a.cb, 0, none⟩) from by simp [upd, e9, e11, e13])]; first | rfl | simp [go_sem]) fun F1 => ?_
        refine lyp F1 rfl HCC rfl (by omega) (wanted_none rfl) (v := Value.int .i64 (j : Nat)) (fun wr hwr => by simp only [execOp, (F1.eval 13 (by omega)).trans (show _ = Value.int .i64 (j : Nat) from by simp [upd, e9, e11, e13])]; first | rfl | simp [go_sem]) fun F2 => ?_
        refine lcp F2 rfl HCC rfl (by omega) (wanted_none rfl) (g := 14) (args := #[Value.pointer (some ⟨a.cb, 0, none⟩), Value.int .i64 (j : Nat)]) (by simp only [execOp, resolve, invoke, List.map_toArray, List.map_cons, List.map_nil, (F2.eval 111 (by omega)).trans (show _ = Value.pointer (some ⟨a.cb, 0, none⟩) from by simp [upd, e9, e11, e13]), (F2.eval 112 (by omega)).trans (show _ = Value.int .i64 (j : Nat) from by simp [upd, e9, e11, e13])]; simp [go_sem, Act.eval]) (HLS.out ({ V with drawn := V.drawn + 1 } : World) (Below.drew (Below.refl _ _))) ?_
        rintro e v5 ⟨rfl, hb5⟩
        have HC5 : (fun wq => wq.cell? ⟨lb, j, none⟩ = some (.int .i64 l')) v5 := (hb5.cell (p := ⟨lb, j, none⟩) (World.block_lt_of_cell? _ _ HCC)).trans HCC
        refine ⟨_, rfl, fun F3 => ?_⟩
        refine lyp F3 rfl HC5 rfl (by omega) (wanted_none rfl) (v := Value.int .i64 (j : Nat)) (fun wr hwr => by simp only [execOp, (F3.eval 13 (by omega)).trans (show _ = Value.int .i64 (j : Nat) from by simp [upd, e9, e11, e13])]; first | rfl | simp [go_sem]) fun F4 => ?_
        refine lyp F4 rfl HC5 rfl (by omega) (wanted_none rfl) (v := Value.pointer (some ⟨lb, j, none⟩)) (fun wr hwr => by simp only [execOp, (F4.eval 11 (by omega)).trans (show _ = Value.pointer (some ⟨lb, 0, none⟩) from by simp [upd, e9, e11, e13]), (F4.eval 114 (by omega)).trans (show _ = Value.int .i64 (j : Nat) from by simp [upd, e9, e11, e13])]; simp only [Sem.run_bind, Sem.run_pure, Result.andThen_ok, idx44 wr lb 0 j hj64, Nat.zero_add, Nat.mul_one]; try rfl) fun F5 => ?_
        refine lyp F5 rfl HC5 rfl (by omega) (wanted_none rfl) (v := Value.int .i64 l') (fun wr hwr => by simp only [execOp, (F5.eval 115 (by omega)).trans (show _ = Value.pointer (some ⟨lb, j, none⟩) from by simp [upd, e9, e11, e13])]; simp [go_sem, hwr]) fun F6 => ?_
        refine lyp F6 rfl HC5 rfl (by omega) (wanted_none rfl) (v := Value.bool false) (fun wr hwr => by simp only [execOp, (F6.eval 113 (by omega)).trans (show _ = Value.int .i64 l' from by simp [upd, e9, e11, e13]), (F6.eval 116 (by omega)).trans (show _ = Value.int .i64 l' from by simp [upd, e9, e11, e13])]; simp [go_sem, Act.eval]) fun F7 => ?_
        refine ⟨fun _ => HC5, ?_⟩
        refine hK2 _ _ ?_
        clear F0 F1 F2 F3 F4 F5 F6 F7 e9 e11 e13 HCC HC5
        simp only [Act.put, List.setIfInBounds_toArray, List.set_cons_succ, List.set_cons_zero]
        have HFI : Hid (OrdS a lb C' x' (k + 1) w v5) := (HNX.out v5 ((Below.drew (Below.refl _ _)).trans hb5)).1
        clear hb5 HNX HLS HCY
        go_wp2_with fail
        go_roundw
        case rel => exact ⟨k + 1, C', x', by omega, by go_num, HFI.out⟩
        case measure => simp [intOf]; omega

    · go_wp2_with fail
      go_ret
      exact ⟨rfl, HO.out.bl⟩

end Go.Proofs.Ytadfmnlkfcigoaa
