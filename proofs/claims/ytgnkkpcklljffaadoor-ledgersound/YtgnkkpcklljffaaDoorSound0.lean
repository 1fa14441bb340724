import Derived.Test.YtgnkkpcklljffaaDoorRun
import Derived.Test.YtgnkkpcklljffaaDoorBack
namespace Go.Proofs.YtgnkkpcklljffaaDoor
open Go.RowKit Go.PlainAid
set_option linter.unusedVariables false
set_option linter.unusedSimpArgs false
def LS.dcode (s : LS) (kind a b : Int) : Int := if kind = 6 then s.icode a b else if kind = 7 then s.ocode a b else if kind = 9 then s.scode a else if kind = 10 then s.rcode a b else s.tcode (fromOf kind) a
def LS.dnext (s : LS) (kind a b : Int) : LS := if kind = 6 then s.inext a b else if kind = 7 then s.onext a b else if kind = 9 then s.snext a else if kind = 10 then s.rnext a b else s.tnext (fromOf kind) (toOf kind) a
theorem LS.dnext_ok (s : LS) (h : s.Ok) (kind a b : Int) : (s.dnext kind a b).Ok := by
  unfold LS.dnext
  split
  · exact s.inext_ok h a b
  · split
    · exact s.onext_ok h a b
    · split
      · exact s.snext_ok h a
      · split
        · exact s.rnext_ok h a b
        · exact s.tnext_ok h _ _ (from_lt kind) (to_lt kind) (fromto kind) a
theorem LS.dnext_err (s : LS) (kind a b : Int) (h : s.dcode kind a b ≠ 0) : s.dnext kind a b = s := by
  unfold LS.dcode at h
  unfold LS.dnext
  split
  · rename_i e; rw [if_pos e] at h; unfold LS.inext; rw [if_neg h]
  · rename_i e; rw [if_neg e] at h
    split
    · rename_i e; rw [if_pos e] at h; unfold LS.onext; rw [if_neg h]
    · rename_i e; rw [if_neg e] at h
      split
      · rename_i e; rw [if_pos e] at h; unfold LS.snext; rw [if_neg h]
      · rename_i e; rw [if_neg e] at h
        split
        · rename_i e; rw [if_pos e] at h; unfold LS.rnext; rw [if_neg h]
        · rename_i e; rw [if_neg e] at h; unfold LS.tnext; rw [if_neg h]
theorem LS.mv_all (s : LS) (i j : Nat) (hi : i < 3) (hj : j < 3) (hne : i ≠ j) (k : Int) : (s.mv i j k).all = s.all ∧ (s.mv i j k).c = s.c ∧ (s.mv i j k).n = s.n := by
  match i, j, hi, hj with
  | 0, 1, _, _ => refine ⟨?_, rfl, rfl⟩; simp only [LS.mv, LS.put, LS.get, LS.all]; omega
  | 0, 2, _, _ => refine ⟨?_, rfl, rfl⟩; simp only [LS.mv, LS.put, LS.get, LS.all]; omega
  | 1, 0, _, _ => refine ⟨?_, rfl, rfl⟩; simp only [LS.mv, LS.put, LS.get, LS.all]; omega
  | 1, 2, _, _ => refine ⟨?_, rfl, rfl⟩; simp only [LS.mv, LS.put, LS.get, LS.all]; omega
  | 2, 0, _, _ => refine ⟨?_, rfl, rfl⟩; simp only [LS.mv, LS.put, LS.get, LS.all]; omega
  | 2, 1, _, _ => refine ⟨?_, rfl, rfl⟩; simp only [LS.mv, LS.put, LS.get, LS.all]; omega
  | 0, 0, _, _ => exact absurd rfl hne
  | 1, 1, _, _ => exact absurd rfl hne
  | 2, 2, _, _ => exact absurd rfl hne
/-- What an answer of 0 says of the sum. -/
theorem LS.d6 (s : LS) (ho : s.Ok) (a b : Int) (h : s.dcode 6 a b = 0) : (s.dnext 6 a b).all = s.all + (a + b) ∧ (s.dnext 6 a b).c = s.c ∧ (s.dnext 6 a b).n = s.n ∧ 0 ≤ a ∧ 0 ≤ b ∧ a + b ≤ 1099511627776 := by
  have h' : s.icode a b = 0 := h
  show (s.inext a b).all = _ ∧ (s.inext a b).c = _ ∧ (s.inext a b).n = _ ∧ _
  unfold LS.inext; rw [if_pos h']
  obtain ⟨h1, h2, h3, h4, h5, h6⟩ := ho
  unfold LS.icode at h'
  by_cases hn : a < 0 ∨ b < 0
  · rw [if_pos hn] at h'; cases h'
  · rw [if_neg hn] at h'
    by_cases hm : s.c - s.all < a + b
    · rw [if_pos hm] at h'; cases h'
    · unfold LS.all at *; refine ⟨?_, rfl, rfl, ?_, ?_, ?_⟩ <;> (try simp only) <;> omega
theorem LS.d7 (s : LS) (ho : s.Ok) (a b : Int) (h : s.dcode 7 a b = 0) : (s.dnext 7 a b).all = s.all + (-a - b) ∧ (s.dnext 7 a b).c = s.c ∧ (s.dnext 7 a b).n = s.n ∧ 0 ≤ a ∧ 0 ≤ b ∧ a + b ≤ 1099511627776 := by
  have h' : s.ocode a b = 0 := h
  show (s.onext a b).all = _ ∧ (s.onext a b).c = _ ∧ (s.onext a b).n = _ ∧ _
  unfold LS.onext; rw [if_pos h']
  obtain ⟨h1, h2, h3, h4, h5, h6⟩ := ho
  unfold LS.ocode at h'
  by_cases hn : a < 0 ∨ b < 0
  · rw [if_pos hn] at h'; cases h'
  · rw [if_neg hn] at h'
    by_cases hm : s.d < a ∨ s.u < b
    · rw [if_pos hm] at h'; cases h'
    · unfold LS.all at *; refine ⟨?_, rfl, rfl, ?_, ?_, ?_⟩ <;> (try simp only) <;> omega
theorem LS.d10 (s : LS) (ho : s.Ok) (a b : Int) (h : s.dcode 10 a b = 0) : (s.dnext 10 a b).all = s.all + ((s.dnext 10 a b).c - s.c) := by
  have h' : s.rcode a b = 0 := h
  show (s.rnext a b).all = _ + ((s.rnext a b).c - s.c)
  unfold LS.rnext; rw [if_pos h']
  simp only [LS.all]; omega
theorem LS.dn (s : LS) (ho : s.Ok) (kind a b : Int) (n6 : kind ≠ 6) (n7 : kind ≠ 7) (n10 : kind ≠ 10) (h : s.dcode kind a b = 0) : (s.dnext kind a b).all = s.all ∧ (s.dnext kind a b).c = s.c ∧ (s.dnext kind a b).n = s.n := by
  unfold LS.dcode at h
  unfold LS.dnext
  rw [if_neg n6, if_neg n7] at h ⊢
  by_cases h9 : kind = 9
  · rw [if_pos h9] at h ⊢
    unfold LS.snext; rw [if_pos h]
    refine ⟨?_, rfl, rfl⟩
    simp only [LS.all]; omega
  · rw [if_neg h9, if_neg n10] at h ⊢
    unfold LS.tnext; rw [if_pos h]
    exact s.mv_all _ _ (from_lt kind) (to_lt kind) (fromto kind) a
set_option maxRecDepth 100000 in
set_option maxHeartbeats 3200000 in
theorem does_any {S : Sens} {L hb : Nat} {s : LS} (w : World) (hS : Sen S L w) (h : Blk w hb s.cs 62) (ho : s.Ok) (hL : L ≤ hb) (kind who a b : Int) (ha : IntKind.i64.wrap a = a) (hb2 : IntKind.i64.wrap b = b) :
    Calls Tryd.prog 27 #[.pointer (some ⟨hb, 0, none⟩), .agg #[.int .i64 kind, .int .i64 who, .int .i64 a, .int .i64 b]] w fun r w' => r = .returned (.int .i64 (s.dcode kind a b)) ∧ Blk w' hb (s.dnext kind a b).cs 62 ∧ Stq hb w w' := by
  have hLw : L ≤ w.heap.size := Nat.le_of_lt (Nat.lt_of_le_of_lt hL h.lt)
  have hgr : Below w.heap.size w (w.alloc (.cells #[.int .i64 kind, .int .i64 who, .int .i64 a, .int .i64 b] 45)) := by go_grown
  have hS1 := hS.below (hgr.mono hLw)
  have hB1 : Blk (w.alloc (.cells #[.int .i64 kind, .int .i64 who, .int .i64 a, .int .i64 b] 45)) hb s.cs 62 := h.below hgr h.lt
  have HQ : Hid (Stq hb w (w.alloc (.cells #[.int .i64 kind, .int .i64 who, .int .i64 a, .int .i64 b] 45))) := Stq.ofBelow hgr
  clear hgr hS h
  unfold LS.dcode LS.dnext
  by_cases h6 : kind = 6
  · rw [if_pos h6, if_pos h6]
    have g6 : (kind == 6) = true := by simpa using h6
    have hc := in_any _ hS1 hB1 ho hL a b ha hb2
    generalize s.icode a b = ec at *
    generalize (s.inext a b).cs = C at *
    clear h6
    have HB : Hid _ := hB1
    clear hB1 hS1
    go_enter Tryd.func27, Tryd.ntmps27
    go_wp2_with fail
    refine hc.mono ?_
    rintro e1 w1 ⟨rfl, hB, hT⟩
    have HB2 : Hid _ := hB
    have HT : Hid _ := HQ.out.trans hT
    clear hc hB hT HB
    go_wp2_with fail
    go_ret
    exact ⟨rfl, HB2.out, HT.out⟩
  · rw [if_neg h6, if_neg h6]
    by_cases h7 : kind = 7
    · rw [if_pos h7, if_pos h7]
      have g7 : (kind == 7) = true := by simpa using h7
      have f6 : (kind == 6) = false := by simp; omega
      have hc := out_any _ hS1 hB1 ho hL a b
      generalize s.ocode a b = ec at *
      generalize (s.onext a b).cs = C at *
      clear h6 h7
      have HB : Hid _ := hB1
      clear hB1 hS1
      go_enter Tryd.func27, Tryd.ntmps27
      go_wp2_with fail
      refine hc.mono ?_
      rintro e1 w1 ⟨rfl, hB, hT⟩
      have HB2 : Hid _ := hB
      have HT : Hid _ := HQ.out.trans hT
      clear hc hB hT HB
      go_wp2_with fail
      go_ret
      exact ⟨rfl, HB2.out, HT.out⟩
    · rw [if_neg h7, if_neg h7]
      by_cases h9 : kind = 9
      · rw [if_pos h9, if_pos h9]
        have g9 : (kind == 9) = true := by simpa using h9
        have f6 : (kind == 6) = false := by simp; omega
        have f7 : (kind == 7) = false := by simp; omega
        have hc := set_any _ hS1 hB1 ho hL a
        generalize s.scode a = ec at *
        generalize (s.snext a).cs = C at *
        clear h6 h7 h9
        have HB : Hid _ := hB1
        clear hB1 hS1
        go_enter Tryd.func27, Tryd.ntmps27
        go_wp2_with fail
        refine hc.mono ?_
        rintro e1 w1 ⟨rfl, hB, hT⟩
        have HB2 : Hid _ := hB
        have HT : Hid _ := HQ.out.trans hT
        clear hc hB hT HB
        go_wp2_with fail
        go_ret
        exact ⟨rfl, HB2.out, HT.out⟩
      · rw [if_neg h9, if_neg h9]
        by_cases h10 : kind = 10
        · rw [if_pos h10, if_pos h10]
          have g10 : (kind == 10) = true := by simpa using h10
          have f6 : (kind == 6) = false := by simp; omega
          have f7 : (kind == 7) = false := by simp; omega
          have f9 : (kind == 9) = false := by simp; omega
          have hc := recap_any _ hS1 hB1 ho hL a b
          generalize s.rcode a b = ec at *
          generalize (s.rnext a b).cs = C at *
          clear h6 h7 h9 h10
          have HB : Hid _ := hB1
          clear hB1 hS1
          go_enter Tryd.func27, Tryd.ntmps27
          go_wp2_with fail
          refine hc.mono ?_
          rintro e1 w1 ⟨rfl, hB, hT⟩
          have HB2 : Hid _ := hB
          have HT : Hid _ := HQ.out.trans hT
          clear hc hB hT HB
          go_wp2_with fail
          go_ret
          exact ⟨rfl, HB2.out, HT.out⟩
        · rw [if_neg h10, if_neg h10]
          have f6 : (kind == 6) = false := by simp; omega
          have f7 : (kind == 7) = false := by simp; omega
          have f9 : (kind == 9) = false := by simp; omega
          have f10 : (kind == 10) = false := by simp; omega
          have hc := turned_any _ hS1 hB1 ho hL kind a
          generalize s.tcode (fromOf kind) a = ec at *
          generalize (s.tnext (fromOf kind) (toOf kind) a).cs = C at *
          clear h6 h7 h9 h10
          have HB : Hid _ := hB1
          clear hB1 hS1
          go_enter Tryd.func27, Tryd.ntmps27
          go_wp2_with fail
          refine hc.mono ?_
          rintro e1 w1 ⟨rfl, hB, hT⟩
          have HB2 : Hid _ := hB
          have HT : Hid _ := HQ.out.trans hT
          clear hc hB hT HB
          go_wp2_with fail
          go_ret
          exact ⟨rfl, HB2.out, HT.out⟩
end Go.Proofs.YtgnkkpcklljffaaDoor
