import Derived.Test.YtlajcaofpmjdlaaTornT
namespace Go.Proofs.Ytlajcaofpmjdlaa
open Go.RowKit Go.PlainAid
set_option linter.unusedVariables false
set_option linter.unusedSimpArgs false
/-- The marks behind what is lent. -/
def mkA (i : Nat) : UInt8 := UInt8.ofNat (167 + i)
def mk40 : List UInt8 := (List.range 40).map mkA
theorem mk40_len : mk40.length = 40 := by rw [mk40, List.length_map, List.length_range]
theorem mk40_take (i : Nat) (h : i < 40) : mk40.take (i + 1) = mk40.take i ++ [mkA i] := by
  rw [List.take_add_one]
  congr 1
  rw [mk40, List.getElem?_map, List.getElem?_range h]
  rfl
theorem mkA_val (i : Nat) (h : i < 40) : B (mkA i) = .int .u8 (167 + (i : Int)) := by
  unfold B mkA
  congr 1
  simp
  omega
set_option maxRecDepth 100000 in
set_option maxHeartbeats 1600000 in
theorem lend_any {v : Value} {s : List UInt8} (w : World) (h : By w v s) (hs : s.length ≤ 1000000000) :
    Calls Try.prog 38 #[v] w fun e w' => ∃ v', e = .returned v' ∧ w'.ownsRow w.heap.size 5 1 v' (s.length + 40) ((s ++ mk40).map B) ∧ Below w.heap.size w w' := by
  obtain ⟨ao, n, cap, rfl, hn, h0, hc⟩ := h
  obtain ⟨v1, w1, hr1, ho1, hg1⟩ := app_rows (w := w) 30 5 (.int .u8 0) 1 1 Try.underlying30 info5' rfl (by decide) (by decide) (World.ownsRow_nil w w.heap.size 5 1) (ao := ao) (m := n) (cap := cap) (ys := s.map B) (by simp [hn]) h0 hc (oneB s) (by omega) (Nat.le_refl _)
  have HHR : Hid (∀ ty, (Builtin.append_ #[30, 30] ty #[.slice none 0 0, .slice ao n cap]).run Try.prog w = .ok v1 w1) := hr1
  rw [Nat.zero_add, List.nil_append] at ho1
  have HN : Hid (s.length = n) := hn
  have hnl : n ≤ 1000000000 := by omega
  have HI : Hid (w1.ownsRow w.heap.size 5 1 v1 n (s.map B) ∧ Below w.heap.size w w1) := ⟨ho1, hg1.below (fun q hq => by cases hq) (Nat.le_refl _)⟩
  obtain ⟨vo1, vc1, hv1, _⟩ := own_slice ho1
  have HV1 : Hid (v1 = .slice vo1 n vc1) := hv1
  clear hn hc h0 hs hr1 ho1 hg1
  subst hv1
  go_enter Try.func38, Try.ntmps38
  go_wp2_with (at_builtin; refine wpList_runs rfl _ _ 30 rfl rfl rfl HHR.out ?_)
  go_loopw [4, 3] (fun s4 s3 wr => ∃ vd, vd = s3 ∧ ∃ i : Nat, i ≤ 40 ∧ s4 = .int .i64 (i : Int) ∧ wr.ownsRow w.heap.size 5 1 vd (n + i) ((s ++ mk40.take i).map B) ∧ Below w.heap.size w wr) (fun s4 _ _ => 40 - (intOf s4).toNat)
  case atStart => exact ⟨_, rfl, 0, Nat.zero_le _, rfl, by rw [List.take_zero, List.append_nil]; exact HI.out.1, HI.out.2⟩
  case round =>
    clear HI
    obtain ⟨vd, rfl, i, hi, rfl, hr, hb⟩ := hrel
    obtain ⟨vo, vc, hvd, _⟩ := own_slice hr
    by_cases hlt : i < 40
    · obtain ⟨v5, w5, hr5, ho5, hg5⟩ := app_bytesB hr hb.size [mkA i] (by simp; omega)
      have hr5' : ∀ ty, (Builtin.append_ #[30, 30] ty #[vd, .slice (some ⟨wr.heap.size, 0, none⟩) 1 1]).run Try.prog (wr.alloc (.cells #[B (mkA i)] 5)) = .ok v5 w5 := hr5
      rw [mkA_val i hlt] at hr5'
      have HHR2 : Hid _ := hr5'
      have HO5 : Hid (w5.ownsRow w.heap.size 5 1 v5 (n + (i + 1)) ((s ++ mk40.take (i + 1)).map B) ∧ Below w.heap.size w w5) := ⟨by
          rw [mk40_take i hlt, ← List.append_assoc, List.map_append, List.map_append]
          rw [List.map_append] at ho5
          exact ho5, hb.trans (hg5.below (fun q hq => (ownsRow_lt hr hq).1) hb.size)⟩
      subst hvd
      clear hr hb hr5 ho5 hg5 hr5'
      go_wp2_with (at_builtin; refine wpList_runs rfl _ _ 30 rfl rfl rfl HHR2.out ?_)
      go_roundw
      case rel => exact ⟨_, rfl, i + 1, by omega, by go_num, HO5.out.1, HO5.out.2⟩
      case measure => simp [intOf]; omega
    · obtain rfl : i = 40 := by omega
      have HF : Hid (wr.ownsRow w.heap.size 5 1 vd (s.length + 40) ((s ++ mk40).map B) ∧ Below w.heap.size w wr) := ⟨by
        rw [List.take_of_length_le (by rw [mk40_len]; exact Nat.le_refl _)] at hr
        rw [HN.out]; exact hr, hb⟩
      subst hvd
      clear hr hb
      go_wp2_with fail
      go_ret
      exact ⟨_, rfl, HF.out.1, HF.out.2⟩
theorem slice30h (g o len cap m : Nat) (h : m ≤ cap) (w : World) : (Instr.sliceAt 30 (.slice (some ⟨g, o, none⟩) len cap) none (some (.int .i64 (m : Int))) none).run Try.prog w = .ok (.slice (some ⟨g, o, none⟩) m cap) w := by
  have hs : (sizeOf 5).run Try.prog w = .ok 1 w := by kernel_rfl
  have he : Try.prog.elem 30 = 5 := by kernel_rfl
  have hu2 : Try.prog.underlying 30 = some (.slice (Try.prog.elem 30)) := by rw [he]; exact Try.underlying30
  rw [run_sliceAt_slice _ _ _ _ _ _ hu2, run_slice_h _ _ _ _ _ hu2 .i64 (m : Int) (by omega) (by omega), he, hs]
  simp [Result.andThen, sliced, Addr.add]
/-- The front of a row. -/
theorem own_front {w : World} {L n m : Nat} {g c : Nat} {xs ys : List UInt8} (h : w.ownsRow L 5 1 (.slice (some ⟨g, 0, none⟩) n c) n ((xs ++ ys).map B)) (hx : xs.length = m) : By w (.slice (some ⟨g, 0, none⟩) m c) xs := by
  refine ⟨_, _, _, rfl, hx, (fun e => by cases e), fun ad e j u hu => ?_⟩
  cases e
  refine h.cells (g := g) rfl j u ?_
  rw [List.map_append, List.getElem?_append_left]
  · exact hu
  · exact (List.getElem?_eq_some_iff.1 hu).1
def mk60 (i : Nat) : UInt8 := UInt8.ofNat (60 + i)
set_option maxRecDepth 100000 in
set_option maxHeartbeats 3200000 in
/-- What was lent is as it was; then it is written over. -/
theorem kept_yes {L g n c : Nat} {bv : Value} {s : List UInt8} (w : World) (h : w.ownsRow L 5 1 (.slice (some ⟨g, 0, none⟩) n c) n ((s ++ mk40).map B)) (hb : By w bv s) (hs : s.length ≤ 1000000000) :
    Calls Try.prog 40 #[.slice (some ⟨g, 0, none⟩) n c, bv] w fun e w' => e = .returned (.bool true) ∧ (∃ zs : List UInt8, w'.ownsRow L 5 1 (.slice (some ⟨g, 0, none⟩) n c) n (zs.map B)) ∧ Chg (fun k => k = g) w w' := by
  have hn : n = s.length + 40 := by have := h.1; simp [mk40_len] at this; omega
  obtain ⟨m, hm⟩ : ∃ m, m = s.length := ⟨_, rfl⟩
  rw [← hm] at hn hs
  obtain ⟨_, hcap⟩ : ∃ _ : Unit, n ≤ c := by
    rcases h.2 with ⟨e, _⟩ | ⟨g2, c2, cur, e, _, _, hc, _⟩
    · cases e
    · cases e; exact ⟨(), hc⟩
  have hsm := same_any w (own_front h hm.symm) hb
  rw [show (s == s) = true from by simp] at hsm
  have HSM : Hid _ := hsm
  have hsl := slice30h g 0 n c m (by omega) w
  have HR : Hid (w.ownsRow L 5 1 (.slice (some ⟨g, 0, none⟩) n c) n ((s ++ mk40).map B)) := h
  have HMM : Hid (m = s.length) := hm
  obtain ⟨vo, vn, vc, hvv, hvn, _⟩ := hb
  rw [← hm] at hvn
  subst hvn
  subst hvv
  subst hn
  have hbe : ((m : Int) + 40 == (m : Int) + 40) = true := by simp
  clear h hsm hm hcap
  go_enter Try.func40, Try.ntmps40
  go_wp2_with fail
  refine Calls.mono HSM.out ?_
  rintro e w1 ⟨rfl, hw1⟩
  replace hw1 := hw1.symm
  subst hw1
  clear HSM
  go_wp2_with fail
  clear hsl
  go_loopw [7, 6] (fun s7 s6 wr => wr = w ∧ s6 = .bool true ∧ ∃ j : Nat, m ≤ j ∧ j ≤ m + 40 ∧ s7 = .int .i64 (j : Int)) (fun s7 _ _ => m + 40 - (intOf s7).toNat)
  case atStart => exact ⟨rfl, rfl, m, by omega, by omega, rfl⟩
  case round =>
    obtain ⟨hwr, rfl, j, hj1, hj2, rfl⟩ := hrel
    subst hwr
    by_cases hlt : j < m + 40
    · have kc : wr.cell? ⟨g, j, none⟩ = some (.int .u8 (167 + (j : Int) - (m : Int))) := by
        have h1 := HR.out.cells (g := g) rfl j (B (mkA (j - m))) (by
          rw [List.map_append, List.getElem?_append_right (by rw [List.length_map, ← HMM.out]; omega), List.length_map, ← HMM.out, List.getElem?_map, mk40, List.getElem?_map, List.getElem?_range (by omega)]
          rfl)
        rw [addr_add, Nat.zero_add, mkA_val (j - m) (by omega)] at h1
        rw [h1]
        congr 2
        omega
      have hjm : (j : Int) < (m : Int) + 40 := by omega
      have hjm2 : (m : Int) ≤ (j : Int) := by omega
      have hby : (167 + (j : Int) - (m : Int)) % 256 = 167 + (j : Int) - (m : Int) := by omega
      go_wp2_with fail
      go_roundw
      case rel => exact ⟨by first | rfl | trivial, by first | rfl | trivial | simp, j + 1, by omega, by omega, by go_num⟩
      case measure => simp [intOf]; omega
    · have hjm : ¬ ((j : Int) < (m : Int) + 40) := by omega
      go_wp2_with fail
      go_loopw [8] (fun s8 wr2 => ∃ i : Nat, i ≤ m + 40 ∧ s8 = .int .i64 (i : Int) ∧ (∃ zs : List UInt8, wr2.ownsRow L 5 1 (.slice (some ⟨g, 0, none⟩) (m + 40) c) (m + 40) (zs.map B)) ∧ Chg (fun k => k = g) wr wr2) (fun s8 _ => m + 40 - (intOf s8).toNat)
      case atStart => exact ⟨0, by omega, rfl, ⟨_, HR.out⟩, Chg.refl _ _⟩
      case round =>
        obtain ⟨i, hi, rfl, ⟨zs, hr⟩, hc⟩ := hrel
        by_cases hlt2 : i < m + 40
        · obtain ⟨hset, hfr⟩ := own_setB (k := i) hr (mk60 i)
          have hzl : zs.length = m + 40 := by have := hr.1; simpa using this
          have hcell := hr.cells (g := g) rfl i (B (zs[i]'(by omega))) (by rw [List.getElem?_map, List.getElem?_eq_getElem (by omega)]; rfl)
          rw [addr_add, Nat.zero_add] at hcell
          obtain ⟨zb, hzb⟩ : ∃ zb, zb = B (zs[i]'(by omega)) := ⟨_, rfl⟩
          rw [← hzb] at hcell
          have hmk : Value.int .u8 ((60 + (i : Int)) % 256) = B (mk60 i) := by
            unfold B mk60
            first
              | (congr 1; done)
              | (congr 1; simp; done)
              | (congr 1; simp; omega)
          have hch := hc.trans (setCell_chg _ g i (B (mk60 i))) (fun _ _ e => e)
          rw [← hmk] at hset hch
          have HN : Hid _ := And.intro hset hch
          clear hset hr hc hzl hzb hmk hch
          go_wp2_with fail
          go_roundw
          case rel => exact ⟨i + 1, by omega, by go_num, ⟨_, HN.out.1⟩, HN.out.2⟩
          case measure => simp [intOf]; omega
        · have HF : Hid _ := And.intro hr hc
          have hin : ¬ ((i : Int) < (m : Int) + 40) := by omega
          clear hr hc
          go_wp2_with fail
          go_ret
          exact ⟨rfl, ⟨_, HF.out.1⟩, HF.out.2⟩
set_option maxRecDepth 100000 in
set_option maxHeartbeats 3200000 in
/-- What was lent the last time is lent again, or new memory. -/
theorem again_any {L n : Nat} {cv bv : Value} {zs s : List UInt8} (w : World) (hc : w.ownsRow L 5 1 cv n (zs.map B)) (hb : By w bv s) (hL : L ≤ w.heap.size) (hs : s.length ≤ 1000000000) :
    Calls Try.prog 45 #[cv, bv] w fun e w' => ∃ v', e = .returned v' ∧ w'.ownsRow L 5 1 v' (s.length + 40) ((s ++ mk40).map B) ∧ Chg (fun k => cv.ownBlock = some k) w w' ∧ ∀ k, v'.ownBlock = some k → cv.ownBlock = some k ∨ w.heap.size ≤ k := by
  obtain ⟨vo, vn, vc, hvv, hvn, _⟩ := id hb
  have HBY : Hid (By w bv s) := hb
  have HVN : Hid (s.length = vn) := hvn
  by_cases hne : n = vn + 40
  · subst hne
    rcases id hc.2 with ⟨e, e0⟩ | ⟨g, c, cur, e, hrest⟩
    · omega
    · obtain ⟨w1, hcp, hr1, hc1⟩ := own_copy (o := 0) (dLen := vn + 40) (dCap := c) (by rw [e] at hc; exact hc) hb (by omega)
      have hzl : zs.length = vn + 40 := by have := hc.1; simpa using this
      have hmn : min s.length (vn + 40) = vn := by omega
      rw [hmn] at hcp hr1
      have HI : Hid (∃ ys : List UInt8, w1.ownsRow L 5 1 (.slice (some ⟨g, 0, none⟩) (vn + 40) c) (vn + 40) (ys.map B) ∧ ys.length = vn + 40 ∧ ∀ j, j < vn → ys[j]? = s[j]?) := ⟨_, hr1, by rw [spl_len]; exact hzl, fun j hj => by
        rw [spl_get _ _ _ _ _ (by omega), if_pos (by omega), List.getD_eq_getElem?_getD, Nat.sub_zero, List.getElem?_eq_getElem (by omega)]
        rfl⟩
      have HC1 : Hid (Chg (fun k => k = g) w w1) := hc1
      have HE : Hid (cv = .slice (some ⟨g, 0, none⟩) (vn + 40) c) := e
      have hvnl : vn ≤ 1000000000 := by omega
      rw [hvv] at hcp
      subst hvv
      subst e
      clear hc hb hr1 hc1 hzl hmn hrest hvn HBY hs
      go_enter Try.func45, Try.ntmps45
      go_wp2_with fail
      clear hcp
      go_loopw [5] (fun s5 wr => ∃ i : Nat, i ≤ 40 ∧ s5 = .int .i64 (i : Int) ∧ (∃ ys : List UInt8, wr.ownsRow L 5 1 (.slice (some ⟨g, 0, none⟩) (vn + 40) c) (vn + 40) (ys.map B) ∧ ys.length = vn + 40 ∧ (∀ j, j < vn → ys[j]? = s[j]?) ∧ ∀ j, j < i → ys[vn + j]? = some (mkA j)) ∧ Chg (fun k => k = g) w wr) (fun s5 _ => 40 - (intOf s5).toNat)
      case atStart =>
        obtain ⟨ys, h1, h2, h3⟩ := HI.out
        exact ⟨0, by omega, rfl, ⟨ys, h1, h2, h3, fun j hj => by omega⟩, HC1.out⟩
      case round =>
        clear HI HC1
        obtain ⟨i, hi, rfl, ⟨ys, hr, hyl, hy1, hy2⟩, hch⟩ := hrel
        by_cases hlt : i < 40
        · obtain ⟨hset, hfr⟩ := own_setB (k := vn + i) hr (mkA i)
          have hcell := hr.cells (g := g) rfl (vn + i) (B (ys[vn + i]'(by omega))) (by rw [List.getElem?_map, List.getElem?_eq_getElem (by omega)]; rfl)
          rw [addr_add, Nat.zero_add] at hcell
          obtain ⟨zb, hzb⟩ : ∃ zb, zb = B (ys[vn + i]'(by omega)) := ⟨_, rfl⟩
          rw [← hzb] at hcell
          have hch2 := hch.trans (setCell_chg _ g (vn + i) (B (mkA i))) (fun _ _ e => e)
          have HYS : Hid ((ys.set (vn + i) (mkA i)).length = vn + 40 ∧ (∀ j, j < vn → (ys.set (vn + i) (mkA i))[j]? = s[j]?) ∧ ∀ j, j < i + 1 → (ys.set (vn + i) (mkA i))[vn + j]? = some (mkA j)) := by
            refine ⟨by rw [List.length_set]; exact hyl, fun j hj => ?_, fun j hj => ?_⟩
            · rw [List.getElem?_set_ne (by omega)]; exact hy1 j hj
            · by_cases e : j = i
              · subst e; rw [List.getElem?_set_self (by omega)]
              · rw [List.getElem?_set_ne (by omega)]; exact hy2 j (by omega)
          rw [mkA_val i hlt] at hset hch2
          have HN : Hid _ := And.intro hset hch2
          clear hset hr hch hzb hch2 hyl hy1 hy2
          go_wp2_with fail
          go_roundw
          case rel => exact ⟨i + 1, by omega, by go_num, ⟨_, HN.out.1, HYS.out.1, HYS.out.2.1, HYS.out.2.2⟩, HN.out.2⟩
          case measure => simp [intOf]; omega
        · have hi40 : i = 40 := by omega
          have hys : ys = s ++ mk40 := by
            have hvs := HVN.out
            apply List.ext_getElem?
            intro j
            by_cases h1 : j < vn
            · rw [hy1 j h1, List.getElem?_append_left (by omega)]
            · by_cases h2 : j < vn + 40
              · have := hy2 (j - vn) (by omega)
                rw [show vn + (j - vn) = j by omega] at this
                rw [this, List.getElem?_append_right (by omega), hvs, mk40, List.getElem?_map, List.getElem?_range (by omega)]
                rfl
              · rw [List.getElem?_eq_none (by omega), List.getElem?_eq_none (by rw [List.length_append, mk40_len]; omega)]
          rw [hys] at hr
          have HF : Hid (wr.ownsRow L 5 1 (.slice (some ⟨g, 0, none⟩) (vn + 40) c) (s.length + 40) ((s ++ mk40).map B) ∧ Chg (fun k => k = g) w wr) := ⟨by rw [HVN.out]; exact hr, hch⟩
          clear hr hch hys hyl hy1 hy2
          subst hi40
          go_wp2_with fail
          go_ret
          exact ⟨_, rfl, HF.out.1, HF.out.2.mono (fun k _ e => by rw [e]; rfl), fun k hk => Or.inl hk⟩
  · have HLD : Hid _ := lend_any w hb hs
    obtain ⟨co, cc, hcv, _⟩ := own_slice hc
    have hnb : ((n : Int) != (vn : Int) + 40) = true := by simp; omega
    have hnc : ((n : Int) == (vn : Int) + 40) = false := by simp; omega
    have hnd : ¬ ((n : Int) = (vn : Int) + 40) := by omega
    have hvnl : vn ≤ 1000000000 := by omega
    have HLL : Hid (L ≤ w.heap.size) := hL
    subst hvv
    subst hcv
    clear hc hb hvn hs hne
    go_enter Try.func45, Try.ntmps45
    go_wp2_with fail
    refine Calls.mono HLD.out ?_
    rintro e w1 ⟨v1, rfl, hr1, hb1⟩
    have HF : Hid (w1.ownsRow L 5 1 v1 (s.length + 40) ((s ++ mk40).map B) ∧ Below w.heap.size w w1 ∧ ∀ k, v1.ownBlock = some k → w.heap.size ≤ k) := ⟨ownsRow_mono hr1 HLL.out, hb1, fun k hk => (ownsRow_lt hr1 hk).1⟩
    obtain ⟨vo1, vc1, hv1, _⟩ := own_slice hr1
    subst hv1
    clear HLD hr1 hb1
    go_wp2_with fail
    go_ret
    exact ⟨_, rfl, HF.out.1, Chg.ofBelow _ HF.out.2.1, fun k hk => Or.inr (HF.out.2.2 k hk)⟩
end Go.Proofs.Ytlajcaofpmjdlaa
