import Derived.Test.YtoemddibojpkpaaSpl
import Derived.Test.YtoemddibojpkpaaFair
namespace Go.Proofs.Ytoemddibojpkpaa
open Go.RowKit Go.PlainAid
set_option linter.unusedVariables false
set_option linter.unusedSimpArgs false
theorem sum_set {l : List Int} {i : Nat} (h : i < l.length) (v : Int) : (l.set i v).sum = l.sum - at0 l i + v := by
  induction l generalizing i with
  | nil => simp at h
  | cons a l ih =>
    cases i with
    | zero => simp [at0]; omega
    | succ i =>
      have := ih (i := i) (by simpa using h)
      simp only [List.set_cons_succ, List.sum_cons, this]
      have e : at0 (a :: l) (i + 1) = at0 l i := by simp [at0]
      rw [e]
      omega
theorem bump_sum (ps : List Int) (o : List Nat) (ho : ∀ a ∈ o, a < ps.length) : (bump ps o).sum = ps.sum + o.length := by
  induction o generalizing ps with
  | nil => simp [bump]
  | cons a o ih =>
    have ha := ho a (by simp)
    have e : bump ps (a :: o) = bump (ps.set a (at0 ps a + 1)) o := rfl
    rw [e, ih _ (fun b hb => by simp; exact ho b (by simp [hb])), sum_set ha]
    simp only [List.length_cons]
    omega
theorem dealG_sum {total : Int} {cs : List Int} {n : Nat} (h : Cnt cs n) : (dealG total cs).sum = total := by
  have hb := left_bounds total cs h.sum
  have hol := ord_length (rests0 total cs)
  have hrl : (rests0 total cs).length = cs.length := by simp [rests0]
  unfold dealG
  rw [bump_sum _ _ (fun a ha => by have := ord_mem.mp (List.mem_of_mem_take ha); simpa [rests0, parts0] using this), List.length_take]
  have : ((min (leftOf total cs).toNat (ord (rests0 total cs)).length : Nat) : Int) = leftOf total cs := by omega
  rw [this]
  unfold leftOf
  omega
theorem dealG_nonneg {total : Int} {cs : List Int} {n : Nat} (h : Cnt cs n) (ht : 0 ≤ total) (j : Nat) (hj : j < n) : 0 ≤ at0 (dealG total cs) j := by
  unfold dealG
  rw [bump_at _ _ (List.Nodup.sublist (List.take_sublist _ _) (ord_nodup _)) (fun a ha => by have := ord_mem.mp (List.mem_of_mem_take ha); simpa [rests0, parts0] using this)]
  have h0 : 0 ≤ at0 (parts0 total cs) j := by
    unfold parts0
    rw [at0_map _ (by rw [h.len]; exact hj)]
    exact Int.ediv_nonneg (Int.mul_nonneg ht (h.ok j hj).1) (Int.le_of_lt h.sum)
  split <;> omega
theorem dealL_sum {t : Int} {ws : List Int} (h : okD t ws = true) : (dealL t ws).sum = t := by
  have h2 := h
  unfold okD at h2
  simp only [Bool.and_eq_true] at h2
  unfold dealL
  rw [if_pos h]
  exact dealG_sum (cnt_ok h2.2)
theorem dealL_nonneg {t : Int} {ws : List Int} (h : okD t ws = true) (j : Nat) (hj : j < ws.length) : 0 ≤ at0 (dealL t ws) j := by
  have h2 := h
  unfold okD at h2
  simp only [Bool.and_eq_true, decide_eq_true_eq] at h2
  unfold dealL
  rw [if_pos h]
  exact dealG_nonneg (cnt_ok h2.2) h2.1.1 j hj
theorem sum_nonneg {l : List Int} (h : ∀ z ∈ l, 0 ≤ z) : 0 ≤ l.sum := by
  induction l with
  | nil => simp
  | cons a l ih => have := h a (by simp); have := ih fun z hz => h z (by simp [hz]); simp only [List.sum_cons]; omega
theorem take_sums {t : Int} {ws : List Int} (h : okD t ws = true) (k : Nat) : 0 ≤ ((dealL t ws).take k).sum ∧ ((dealL t ws).take k).sum ≤ t := by
  have hz : ∀ z ∈ dealL t ws, 0 ≤ z := fun z hz => by
    obtain ⟨j, hj, rfl⟩ := mem_at0 hz
    exact dealL_nonneg h j (by rw [dealL_length h] at hj; exact hj)
  refine ⟨sum_nonneg fun z hz2 => hz z (List.mem_of_mem_take hz2), ?_⟩
  have := sum_take_le hz k
  rwa [dealL_sum h] at this
theorem deal_one {t : Int} {x : Int} (h : okD t [x] = true) : dealL t [x] = [t] := by
  have hl := dealL_length h
  have hs := dealL_sum h
  match hq : dealL t [x] with
  | [] => rw [hq] at hl; simp at hl
  | [a] => rw [hq] at hs; simp at hs; rw [hs]
  | a :: b :: c => rw [hq] at hl; simp at hl
theorem atR_zip {ds us : List Int} {k n : Nat} (h1 : ds.length = n) (h2 : us.length = n) (hk : k < n) : atR (ds.zip us) k = (at0 ds k, at0 us k) := by
  unfold atR
  rw [List.getD_eq_getElem?_getD, List.getElem?_eq_getElem (by simp; omega), List.getElem_zip, at0_lt (by omega), at0_lt (by omega)]
  rfl
set_option maxRecDepth 100000 in
set_option maxHeartbeats 3200000 in
theorem parts_law (down up : Int) (hdw : IntKind.i64.wrap down = down) (huw : IntKind.i64.wrap up = up) (ao : Option Addr) (n c : Nat) (zs : List Int) (W : World) (hl : zs.length = n) (hx : FromI W ao zs) (hn : n * 8 ≤ 140737488355328) :
    Calls Try.prog 5 #[.int .i64 down, .int .i64 up, .slice ao n c] W fun r w' => r = .returned (.bool true) ∧ Below W.heap.size W w' := by
  have hab := able_any W
  have HX : Hid (FromI W ao zs) := hx
  clear hx
  go_enter Try.func5, Try.ntmps5
  go_wp2_with (first
    | (go_at_call 9; refine hab.mono ?_; rintro e w1 ⟨rfl, hb1⟩; have HB1 : Hid (Below W.heap.size W w1) := hb1; have HX1 : Hid (FromI w1 ao zs) := FromI.all HX.out hb1; clear hb1 hab)
    | fail)
  go_at_call 12
  refine (fair_any (c := c) down hdw w1 hl HX1.out (by unfold maxLen; omega)).mono ?_
  rintro e w2 ⟨v2, rfl, hv2, hb2⟩
  have hRL := fairL_right zs
  have hLm := (cnt_ok hRL).pos
  have hLe := (cnt_ok hRL).le
  obtain ⟨gL, cL, rfl, hcL, _, hLL, hsL, _⟩ := own_form hv2 hLm
  have hD := fairT_range down
  have hU := fairT_range up
  have hf2 := fair_any (c := 0) up huw w2 (ao := none) (n := 0) (zs := []) rfl (fun h => by simp at h) (by unfold maxLen; omega)
  have HV2 : Hid _ := hv2
  have HB2 : Hid (Below W.heap.size W w2) := HB1.out.trans (hb2.mono HB1.out.size)
  clear hv2 hb2 HX1 HB1 hLL hsL
  go_wp2_with fail
  refine hf2.mono ?_
  rintro e w3 ⟨v3, rfl, hv3, hb3⟩
  obtain ⟨o3, c3, rfl, _⟩ := own_slice hv3
  have hrow3 := ownsRow_same HV2.out (fun j hj => hb3.block j (ownsRow_lt HV2.out hj).2)
  obtain ⟨_, _, e3, _, _, _, hF3, _⟩ := own_from hrow3
  cases e3
  have HF3 : Hid (FromI w3 (some ⟨gL, 0, none⟩) (fairL zs)) := hF3
  have HB3 : Hid (Below W.heap.size W w3) := HB2.out.trans (hb3.mono HB2.out.size)
  have HRL : Hid (rightW (fairL zs) = true) := hRL
  obtain ⟨m, hLl⟩ : ∃ m, (fairL zs).length = m := ⟨_, rfl⟩
  rw [hLl] at hLm hLe hcL ⊢
  have hmp : 0 < m := hLm
  have hm16 : m ≤ 16 := hLe
  clear hv3 hb3 hrow3 hF3 HV2 HB2 hf2 hRL hLm hLe
  generalize fairT down = D at *
  generalize fairT up = U at *
  generalize fairL zs = Ls at *
  by_cases hbig : 1099511627776 < D + U
  · have hsp1 := split_any (c := cL) D (1099511627776 - D) (by rw [IntKind.wrap_i64]; omega) (by rw [IntKind.wrap_i64]; omega) w3 hLl HF3.out (by unfold maxLen; omega)
    have hoS : okS D (1099511627776 - D) = true := by simp [okS]; omega
    have hoD : okD D Ls = true := by simp [okD, HRL.out]; omega
    have hoU : okD (1099511627776 - D) Ls = true := by simp [okD, HRL.out]; omega
    have hcS : splitC D (1099511627776 - D) Ls = 0 := by simp [splitC, hoS, dealC, hoD]
    have hlS : splitL D (1099511627776 - D) Ls = (dealL D Ls).zip (dealL (1099511627776 - D) Ls) := by simp [splitL, hoS]
    have hdl := dealL_length hoD
    have hul := dealL_length hoU
    rw [hLl] at hdl hul
    have hzl : ((dealL D Ls).zip (dealL (1099511627776 - D) Ls)).length = m := by simp; omega
    rw [hcS, hlS, hzl] at hsp1
    have h7D : okD D [7] = true := by simp [okD]; exact ⟨by omega, by decide⟩
    have h7U : okD (1099511627776 - D) [7] = true := by simp [okD]; exact ⟨by omega, by decide⟩
    have hc7 : splitC D (1099511627776 - D) [7] = 0 := by simp [splitC, hoS, dealC, h7D]
    have hl7 : splitL D (1099511627776 - D) [7] = [(D, (1099511627776 - D))] := by simp [splitL, hoS, deal_one h7D, deal_one h7U]
    have hsd := dealL_sum hoD
    have hsu := dealL_sum hoU
    have HTD : Hid _ := fun k => take_sums hoD k
    have HTU : Hid _ := fun k => take_sums hoU k
    have HND : Hid _ := dealL_nonneg hoD
    have HNU : Hid _ := dealL_nonneg hoU
    have HS7 : Hid (∀ wq : World, Calls Try.prog 14 #[.agg #[.int .i64 D, .int .i64 (1099511627776 - D)], .slice (some ⟨wq.heap.size, 0, none⟩) 1 1] (wq.alloc (.cells #[.int .i64 7] 3)) fun r w' => ∃ v, r = .returned (.tuple #[v, .int .i64 0]) ∧ w'.ownsRow (wq.alloc (.cells #[.int .i64 7] 3)).heap.size 38 2 v 1 (flatR [(D, (1099511627776 - D))]) ∧ Below (wq.alloc (.cells #[.int .i64 7] 3)).heap.size (wq.alloc (.cells #[.int .i64 7] 3)) w') := fun wq => by
      have := split_any (c := 1) D (1099511627776 - D) (by rw [IntKind.wrap_i64]; omega) (by rw [IntKind.wrap_i64]; omega) (wq.alloc (.cells #[.int .i64 7] 3)) (ao := some ⟨wq.heap.size, 0, none⟩) (n := 1) (ws := [7]) rfl (fromI_new wq [7] _ _ _ rfl) (by unfold maxLen; omega)
      rw [hc7, hl7] at this
      exact this
    clear hoS hoD hoU hcS hlS h7D h7U hc7 hl7 hzl
    generalize dealL D Ls = ds at *
    generalize dealL (1099511627776 - D) Ls = us at *
    go_wp2_with fail
    refine hsp1.mono ?_
    rintro e w4 ⟨v4, rfl, hv4, hb4⟩
    obtain ⟨g4, c4, rfl, hc4, _, hL4, hs4⟩ := ownR_form hv4 hmp
    have HV4 : Hid _ := hv4
    have HB4 : Hid (Below W.heap.size W w4) := HB3.out.trans (hb4.mono HB3.out.size)
    clear hv4 hb4 hsp1
    go_wp2_with fail
    refine (HS7.out w4).mono ?_
    rintro e w5 ⟨v5, rfl, hv5, hb5⟩
    obtain ⟨g5, c5, rfl, hc5, _, hL5, hs5⟩ := ownR_form hv5 (by decide)
    have hb45 : Below w4.heap.size w4 w5 := ((Below.refl _ _).alloc (Nat.le_refl _) _).trans (hb5.mono (by simp))
    have hrow := ownsRow_same HV4.out (fun j hj => hb45.block j (ownsRow_lt HV4.out hj).2)
    have HROW : Hid (w5.ownsRow w3.heap.size 38 2 (.slice (some ⟨g4, 0, none⟩) m c4) m (flatR (ds.zip us))) := hrow
    have HB5 : Hid (Below W.heap.size W w5) := HB4.out.trans (hb45.mono HB4.out.size)
    obtain ⟨q0, q1⟩ := ownR_at hv5 (k := 0) (by decide)
    replace q0 : w5.cell? ⟨g5, 0, none⟩ = some (.int .i64 D) := q0
    replace q1 : w5.cell? ⟨g5, 1, none⟩ = some (.int .i64 (1099511627776 - D)) := q1
    clear hv5 hb5 hb45 hrow HV4 HB4 HS7 hL4 hs4 hL5 hs5
    go_wp2
    go_loopw [11, 12, 13] (fun av bv i wr => ∃ k : Nat, k ≤ m ∧ i = .int .i64 k ∧ av = .int .i64 (ds.take k).sum ∧ bv = .int .i64 (us.take k).sum ∧ wr = w5) (fun _ _ i _ => m - (intOf i).toNat)
    case atStart => exact ⟨0, Nat.zero_le _, rfl, by simp, by simp, rfl⟩
    case round =>
      obtain ⟨k, hk, rfl, rfl, rfl, rfl⟩ := hrel
      by_cases hlt : k < m
      · obtain ⟨e1, e2⟩ := ownR_at HROW.out hlt
        rw [atR_zip hdl hul hlt] at e1 e2
        simp only at e1 e2
        have t1 := HTD.out k
        have t2 := HTU.out k
        have t3 := HTD.out (k + 1)
        have t4 := HTU.out (k + 1)
        have s1 := sum_take_succ ds k (by omega)
        have s2 := sum_take_succ us k (by omega)
        rw [s1] at t3
        rw [s2] at t4
        have n1 : 0 ≤ at0 ds k := HND.out k (by omega)
        have n2 : 0 ≤ at0 us k := HNU.out k (by omega)
        have HS1 : Hid _ := s1
        have HS2 : Hid _ := s2
        clear s1 s2
        generalize (ds.take k).sum = sk1 at t1 t3 HS1
        generalize (us.take k).sum = sk2 at t2 t4 HS2
        generalize at0 ds k = zd at *
        generalize at0 us k = zu at *
        have n3 : ¬ zd < 0 := by omega
        have n4 : ¬ zu < 0 := by omega
        clear q0 q1
        go_wp2
        go_roundw
        case rel => exact ⟨k + 1, by omega, by go_num, by rw [HS1.out], by rw [HS2.out], by first | trivial | rfl⟩
        case measure => simp [intOf]; omega
      · obtain rfl : m = k := by omega
        have f1 : (ds.take m).sum = D := by rw [List.take_of_length_le (by omega)]; exact hsd
        have f2 : (us.take m).sum = (1099511627776 - D) := by rw [List.take_of_length_le (by omega)]; exact hsu
        rw [f1, f2]
        clear f1 f2
        go_wp2
        go_ret
        exact ⟨rfl, HB5.out⟩
  · have hsp1 := split_any (c := cL) D U (by rw [IntKind.wrap_i64]; omega) (by rw [IntKind.wrap_i64]; omega) w3 hLl HF3.out (by unfold maxLen; omega)
    have hoS : okS D U = true := by simp [okS]; omega
    have hoD : okD D Ls = true := by simp [okD, HRL.out]; omega
    have hoU : okD U Ls = true := by simp [okD, HRL.out]; omega
    have hcS : splitC D U Ls = 0 := by simp [splitC, hoS, dealC, hoD]
    have hlS : splitL D U Ls = (dealL D Ls).zip (dealL U Ls) := by simp [splitL, hoS]
    have hdl := dealL_length hoD
    have hul := dealL_length hoU
    rw [hLl] at hdl hul
    have hzl : ((dealL D Ls).zip (dealL U Ls)).length = m := by simp; omega
    rw [hcS, hlS, hzl] at hsp1
    have h7D : okD D [7] = true := by simp [okD]; exact ⟨by omega, by decide⟩
    have h7U : okD U [7] = true := by simp [okD]; exact ⟨by omega, by decide⟩
    have hc7 : splitC D U [7] = 0 := by simp [splitC, hoS, dealC, h7D]
    have hl7 : splitL D U [7] = [(D, U)] := by simp [splitL, hoS, deal_one h7D, deal_one h7U]
    have hsd := dealL_sum hoD
    have hsu := dealL_sum hoU
    have HTD : Hid _ := fun k => take_sums hoD k
    have HTU : Hid _ := fun k => take_sums hoU k
    have HND : Hid _ := dealL_nonneg hoD
    have HNU : Hid _ := dealL_nonneg hoU
    have HS7 : Hid (∀ wq : World, Calls Try.prog 14 #[.agg #[.int .i64 D, .int .i64 U], .slice (some ⟨wq.heap.size, 0, none⟩) 1 1] (wq.alloc (.cells #[.int .i64 7] 3)) fun r w' => ∃ v, r = .returned (.tuple #[v, .int .i64 0]) ∧ w'.ownsRow (wq.alloc (.cells #[.int .i64 7] 3)).heap.size 38 2 v 1 (flatR [(D, U)]) ∧ Below (wq.alloc (.cells #[.int .i64 7] 3)).heap.size (wq.alloc (.cells #[.int .i64 7] 3)) w') := fun wq => by
      have := split_any (c := 1) D U (by rw [IntKind.wrap_i64]; omega) (by rw [IntKind.wrap_i64]; omega) (wq.alloc (.cells #[.int .i64 7] 3)) (ao := some ⟨wq.heap.size, 0, none⟩) (n := 1) (ws := [7]) rfl (fromI_new wq [7] _ _ _ rfl) (by unfold maxLen; omega)
      rw [hc7, hl7] at this
      exact this
    clear hoS hoD hoU hcS hlS h7D h7U hc7 hl7 hzl
    generalize dealL D Ls = ds at *
    generalize dealL U Ls = us at *
    go_wp2_with fail
    refine hsp1.mono ?_
    rintro e w4 ⟨v4, rfl, hv4, hb4⟩
    obtain ⟨g4, c4, rfl, hc4, _, hL4, hs4⟩ := ownR_form hv4 hmp
    have HV4 : Hid _ := hv4
    have HB4 : Hid (Below W.heap.size W w4) := HB3.out.trans (hb4.mono HB3.out.size)
    clear hv4 hb4 hsp1
    go_wp2_with fail
    refine (HS7.out w4).mono ?_
    rintro e w5 ⟨v5, rfl, hv5, hb5⟩
    obtain ⟨g5, c5, rfl, hc5, _, hL5, hs5⟩ := ownR_form hv5 (by decide)
    have hb45 : Below w4.heap.size w4 w5 := ((Below.refl _ _).alloc (Nat.le_refl _) _).trans (hb5.mono (by simp))
    have hrow := ownsRow_same HV4.out (fun j hj => hb45.block j (ownsRow_lt HV4.out hj).2)
    have HROW : Hid (w5.ownsRow w3.heap.size 38 2 (.slice (some ⟨g4, 0, none⟩) m c4) m (flatR (ds.zip us))) := hrow
    have HB5 : Hid (Below W.heap.size W w5) := HB4.out.trans (hb45.mono HB4.out.size)
    obtain ⟨q0, q1⟩ := ownR_at hv5 (k := 0) (by decide)
    replace q0 : w5.cell? ⟨g5, 0, none⟩ = some (.int .i64 D) := q0
    replace q1 : w5.cell? ⟨g5, 1, none⟩ = some (.int .i64 U) := q1
    clear hv5 hb5 hb45 hrow HV4 HB4 HS7 hL4 hs4 hL5 hs5
    go_wp2
    go_loopw [11, 12, 13] (fun av bv i wr => ∃ k : Nat, k ≤ m ∧ i = .int .i64 k ∧ av = .int .i64 (ds.take k).sum ∧ bv = .int .i64 (us.take k).sum ∧ wr = w5) (fun _ _ i _ => m - (intOf i).toNat)
    case atStart => exact ⟨0, Nat.zero_le _, rfl, by simp, by simp, rfl⟩
    case round =>
      obtain ⟨k, hk, rfl, rfl, rfl, rfl⟩ := hrel
      by_cases hlt : k < m
      · obtain ⟨e1, e2⟩ := ownR_at HROW.out hlt
        rw [atR_zip hdl hul hlt] at e1 e2
        simp only at e1 e2
        have t1 := HTD.out k
        have t2 := HTU.out k
        have t3 := HTD.out (k + 1)
        have t4 := HTU.out (k + 1)
        have s1 := sum_take_succ ds k (by omega)
        have s2 := sum_take_succ us k (by omega)
        rw [s1] at t3
        rw [s2] at t4
        have n1 : 0 ≤ at0 ds k := HND.out k (by omega)
        have n2 : 0 ≤ at0 us k := HNU.out k (by omega)
        have HS1 : Hid _ := s1
        have HS2 : Hid _ := s2
        clear s1 s2
        generalize (ds.take k).sum = sk1 at t1 t3 HS1
        generalize (us.take k).sum = sk2 at t2 t4 HS2
        generalize at0 ds k = zd at *
        generalize at0 us k = zu at *
        have n3 : ¬ zd < 0 := by omega
        have n4 : ¬ zu < 0 := by omega
        clear q0 q1
        go_wp2
        go_roundw
        case rel => exact ⟨k + 1, by omega, by go_num, by rw [HS1.out], by rw [HS2.out], by first | trivial | rfl⟩
        case measure => simp [intOf]; omega
      · obtain rfl : m = k := by omega
        have f1 : (ds.take m).sum = D := by rw [List.take_of_length_le (by omega)]; exact hsd
        have f2 : (us.take m).sum = U := by rw [List.take_of_length_le (by omega)]; exact hsu
        rw [f1, f2]
        clear f1 f2
        go_wp2
        go_ret
        exact ⟨rfl, HB5.out⟩
end Go.Proofs.Ytoemddibojpkpaa
