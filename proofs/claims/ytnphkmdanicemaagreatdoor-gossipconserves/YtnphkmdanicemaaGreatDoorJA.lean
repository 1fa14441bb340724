import Derived.Test.YtnphkmdanicemaaGreatDoorLLed
namespace Go.Proofs.YtnphkmdanicemaaGreatDoor.Led
open Go.RowKit Go.PlainAid
set_option linter.unusedVariables false
set_option linter.unusedSimpArgs false
structure LS where
  d : Int
  u : Int
  h : Int
  c : Int
  n : Int
def LS.cs (s : LS) : Array Value := #[.int .i64 s.d, .int .i64 s.u, .int .i64 s.h, .int .i64 s.c, .int .i64 s.n]
structure LS.Ok (s : LS) : Prop where
  d0 : 0 ≤ s.d
  u0 : 0 ≤ s.u
  h0 : 0 ≤ s.h
  sum : s.d + s.u + s.h ≤ s.c
  c1 : 1 ≤ s.c
  c2 : s.c ≤ 1099511627776
def LS.get (s : LS) : Nat → Int
  | 0 => s.d
  | 1 => s.u
  | _ => s.h
def LS.put (s : LS) : Nat → Int → LS
  | 0, x => { s with d := x }
  | 1, x => { s with u := x }
  | _, x => { s with h := x }
theorem LS.cs_get (s : LS) (i : Nat) (h : i < 3) : s.cs[i]? = some (.int .i64 (s.get i)) := by
  match i with
  | 0 => rfl
  | 1 => rfl
  | 2 => rfl
theorem LS.cs_put (s : LS) (i : Nat) (h : i < 3) (x : Int) : s.cs.setIfInBounds i (.int .i64 x) = (s.put i x).cs := by
  match i with
  | 0 => rfl
  | 1 => rfl
  | 2 => rfl
def LS.mv (s : LS) (i j : Nat) (k : Int) : LS := (s.put i (s.get i - k)).put j ((s.put i (s.get i - k)).get j + k)
def LS.tcode (s : LS) (i : Nat) (k : Int) : Int := if okAmt k = true then (if s.get i < k then 60 else 0) else 1
def LS.tnext (s : LS) (i j : Nat) (k : Int) : LS := if s.tcode i k = 0 then s.mv i j k else s
theorem LS.tcode_is (s : LS) (i : Nat) (k : Int) : s.tcode i k = 0 ∨ s.tcode i k = 1 ∨ s.tcode i k = 60 ∨ s.tcode i k = 61 := by
  unfold LS.tcode; split
  · split <;> simp
  · simp
theorem LS.get_le (s : LS) (h : s.Ok) (i : Nat) : 0 ≤ s.get i ∧ s.get i ≤ 1099511627776 := by
  obtain ⟨_, _, _, _, _, _⟩ := h
  unfold LS.get
  split <;> omega
theorem LS.tnext_ok (s : LS) (h : s.Ok) (i j : Nat) (hi : i < 3) (hj : j < 3) (hne : i ≠ j) (k : Int) : (s.tnext i j k).Ok := by
  unfold LS.tnext
  split
  · rename_i hc
    have hk : 1 ≤ k ∧ k ≤ s.get i := by
      unfold LS.tcode at hc
      split at hc
      · rename_i ha
        simp [okAmt] at ha
        split at hc
        · simp at hc
        · omega
      · simp at hc
    obtain ⟨h1, h2, h3, h4, h5, h6⟩ := h
    match i, j, hi, hj with
    | 0, 1, _, _ => simp only [LS.get] at hk; exact ⟨by simp [LS.mv, LS.put, LS.get]; omega, by simp [LS.mv, LS.put, LS.get]; omega, by simp [LS.mv, LS.put, LS.get]; omega, by simp [LS.mv, LS.put, LS.get]; omega, h5, h6⟩
    | 0, 2, _, _ => simp only [LS.get] at hk; exact ⟨by simp [LS.mv, LS.put, LS.get]; omega, by simp [LS.mv, LS.put, LS.get]; omega, by simp [LS.mv, LS.put, LS.get]; omega, by simp [LS.mv, LS.put, LS.get]; omega, h5, h6⟩
    | 1, 0, _, _ => simp only [LS.get] at hk; exact ⟨by simp [LS.mv, LS.put, LS.get]; omega, by simp [LS.mv, LS.put, LS.get]; omega, by simp [LS.mv, LS.put, LS.get]; omega, by simp [LS.mv, LS.put, LS.get]; omega, h5, h6⟩
    | 1, 2, _, _ => simp only [LS.get] at hk; exact ⟨by simp [LS.mv, LS.put, LS.get]; omega, by simp [LS.mv, LS.put, LS.get]; omega, by simp [LS.mv, LS.put, LS.get]; omega, by simp [LS.mv, LS.put, LS.get]; omega, h5, h6⟩
    | 2, 0, _, _ => simp only [LS.get] at hk; exact ⟨by simp [LS.mv, LS.put, LS.get]; omega, by simp [LS.mv, LS.put, LS.get]; omega, by simp [LS.mv, LS.put, LS.get]; omega, by simp [LS.mv, LS.put, LS.get]; omega, h5, h6⟩
    | 2, 1, _, _ => simp only [LS.get] at hk; exact ⟨by simp [LS.mv, LS.put, LS.get]; omega, by simp [LS.mv, LS.put, LS.get]; omega, by simp [LS.mv, LS.put, LS.get]; omega, by simp [LS.mv, LS.put, LS.get]; omega, h5, h6⟩
    | 0, 0, _, _ => exact absurd rfl hne
    | 1, 1, _, _ => exact absurd rfl hne
    | 2, 2, _, _ => exact absurd rfl hne
  · exact h
end Go.Proofs.YtnphkmdanicemaaGreatDoor.Led

namespace Go.Proofs.YtnphkmdanicemaaGreatDoor.Led
open Go.RowKit Go.PlainAid
set_option linter.unusedVariables false
set_option linter.unusedSimpArgs false
section
variable {ops : Array Oper} {C : World → Prop} {eff : Nat → Bool} {Q : Act → World → Prop} {a : Act} {w w1 : World} {rest : List Oper} {o : Oper} {f : Nat → Value} {N d k z : Nat}
theorem lep (hF : Fr N a f) (he : eff k = true) (hC : C w) (hd : o.dst = some d) (hN : d < N) (hw : Region.wanted o (yielded ops a.tmps) = true) {v : Value} (hr : (execOp a.eval o).run Tryz.prog w = .ok (.value v) w1)
    (h : Fr N (a.put (some d) v) (upd f d v) → wpLex Tryz.prog ops C eff z Q rest (k + 1) (a.put (some d) v) w1) : wpLex Tryz.prog ops C eff z Q (o :: rest) k a w := by
  refine ⟨hC, ?_⟩
  rw [if_pos he]
  exact Or.inl ⟨hw, Or.inl ⟨v, w1, Or.inl hr, by rw [hd]; exact h (hF.put d v hN)⟩⟩
theorem lnp (hF : Fr N a f) (he : eff k = false) (hC : C w) (hd : o.dst = some d) (hN : d < N) (hw : Region.wanted o (yielded ops a.tmps) = false)
    (h : Fr N (a.put (some d) undef) (upd f d undef) → wpLex Tryz.prog ops C eff z Q rest (k + 1) (a.put (some d) undef) w) : wpLex Tryz.prog ops C eff z Q (o :: rest) k a w := by
  refine ⟨hC, ?_⟩
  rw [if_neg (by rw [he]; simp)]
  exact ⟨undef, Or.inr ⟨hw, rfl⟩, by rw [hd]; exact h (hF.put d undef hN)⟩
theorem want_yes {i : Nat} {b : Bool} (hF : Fr N a f) (hg : o.guard = some (i, b)) {e : Nat} (ho : (ops[i]?).bind (·.dst) = some e) (he : e < N) (hb : f e = .bool b) : Region.wanted o (yielded ops a.tmps) = true := by
  rw [wanted_some hg, hF.yields ho he hb]
  simp
theorem want_no {i : Nat} {b c : Bool} (hF : Fr N a f) (hg : o.guard = some (i, b)) {e : Nat} (ho : (ops[i]?).bind (·.dst) = some e) (he : e < N) (hb : f e = .bool c) (hne : c ≠ b) : Region.wanted o (yielded ops a.tmps) = false := by
  rw [wanted_some hg, hF.yields ho he hb]
  simp [hne]
theorem want_not {i : Nat} {b : Bool} (hF : Fr N a f) (hg : o.guard = some (i, b)) {e : Nat} (ho : (ops[i]?).bind (·.dst) = some e) (he : e < N) (hb : f e = undef) : Region.wanted o (yielded ops a.tmps) = false := by
  rw [wanted_some hg, hF.yieldsNot ho he hb]
  rfl
end
end Go.Proofs.YtnphkmdanicemaaGreatDoor.Led

namespace Go.Proofs.YtnphkmdanicemaaGreatDoor.Led
open Go.RowKit Go.PlainAid
set_option linter.unusedVariables false
set_option linter.unusedSimpArgs false
def LS.all (s : LS) : Int := s.d + s.u + s.h
def LS.icode (s : LS) (a b : Int) : Int := if a < 0 ∨ b < 0 then 1 else if s.c - s.all < a + b then 61 else 0
def LS.inext (s : LS) (a b : Int) : LS := if s.icode a b = 0 then { s with d := s.d + a, u := s.u + b } else s
def LS.ocode (s : LS) (a b : Int) : Int := if a < 0 ∨ b < 0 then 1 else if s.d < a ∨ s.u < b then 60 else 0
def LS.onext (s : LS) (a b : Int) : LS := if s.ocode a b = 0 then { s with d := s.d - a, u := s.u - b } else s
theorem LS.icode_is (s : LS) (a b : Int) : s.icode a b = 0 ∨ s.icode a b = 1 ∨ s.icode a b = 60 ∨ s.icode a b = 61 := by
  unfold LS.icode; split
  · simp
  · split <;> simp
theorem LS.ocode_is (s : LS) (a b : Int) : s.ocode a b = 0 ∨ s.ocode a b = 1 ∨ s.ocode a b = 60 ∨ s.ocode a b = 61 := by
  unfold LS.ocode; split
  · simp
  · split <;> simp
theorem LS.inext_ok (s : LS) (h : s.Ok) (a b : Int) : (s.inext a b).Ok := by
  obtain ⟨h1, h2, h3, h4, h5, h6⟩ := h
  unfold LS.inext LS.icode
  by_cases hn : a < 0 ∨ b < 0
  · rw [if_pos hn, if_neg (by decide)]; exact ⟨h1, h2, h3, h4, h5, h6⟩
  · rw [if_neg hn]
    by_cases hc : s.c - s.all < a + b
    · rw [if_pos hc, if_neg (by decide)]; exact ⟨h1, h2, h3, h4, h5, h6⟩
    · rw [if_neg hc, if_pos rfl]
      simp only [LS.all] at hc
      exact ⟨by simp only; omega, by simp only; omega, h3, by simp only; omega, h5, h6⟩
theorem LS.onext_ok (s : LS) (h : s.Ok) (a b : Int) : (s.onext a b).Ok := by
  obtain ⟨h1, h2, h3, h4, h5, h6⟩ := h
  unfold LS.onext LS.ocode
  by_cases hn : a < 0 ∨ b < 0
  · rw [if_pos hn, if_neg (by decide)]; exact ⟨h1, h2, h3, h4, h5, h6⟩
  · rw [if_neg hn]
    by_cases hc : s.d < a ∨ s.u < b
    · rw [if_pos hc, if_neg (by decide)]; exact ⟨h1, h2, h3, h4, h5, h6⟩
    · rw [if_neg hc, if_pos rfl]
      exact ⟨by simp only; omega, by simp only; omega, h3, by simp only; omega, h5, h6⟩
set_option maxRecDepth 100000 in
set_option maxHeartbeats 800000 in
theorem all_any {hb : Nat} {s : LS} (w : World) (h : Blk w hb s.cs 82) (ho : s.Ok) :
    Calls Tryz.prog 66 #[.pointer (some ⟨hb, 0, none⟩)] w fun r w' => r = .returned (.int .i64 s.all) ∧ ∃ q, w' = w.drewN q := by
  obtain ⟨d, u, x, c, n⟩ := s
  obtain ⟨h1, h2, h3, h4, h5, h6⟩ := ho
  simp only at h1 h2 h3 h4 h5 h6
  have c0 : w.cell? ⟨hb, 0, none⟩ = some (.int .i64 d) := h.cell 0
  have c1 : w.cell? ⟨hb, 1, none⟩ = some (.int .i64 u) := h.cell 1
  have c2 : w.cell? ⟨hb, 2, none⟩ = some (.int .i64 x) := h.cell 2
  have e1 : IntKind.i64.wrap (d + u) = d + u := by rw [IntKind.wrap_i64]; omega
  have e2 : IntKind.i64.wrap (d + u + x) = d + u + x := by rw [IntKind.wrap_i64]; omega
  show Calls Tryz.prog 66 _ w fun r w' => r = .returned (.int .i64 (d + u + x)) ∧ _
  clear h
  go_enter Tryz.func66, Tryz.ntmps66
  go_wp2
  go_quiet (fail)
  go_wp2
  go_ret
  exact ⟨rfl, _, rfl⟩

set_option maxRecDepth 100000 in
set_option maxHeartbeats 1600000 in
theorem mayCome_any {S : Sens} {L hb : Nat} {s : LS} (w : World) (hS : Sen S L w) (h : Blk w hb s.cs 82) (ho : s.Ok) (hL : L ≤ hb) (a b : Int) (ha : IntKind.i64.wrap a = a) (hb' : IntKind.i64.wrap b = b) :
    Calls Tryz.prog 43 #[.pointer (some ⟨hb, 0, none⟩), .agg #[.int .i64 a, .int .i64 b]] w fun r w' => r = .returned (errV S (s.icode a b)) ∧ Below w.heap.size w w' := by
  have hLw : L ≤ w.heap.size := Nat.le_of_lt (Nat.lt_of_le_of_lt hL h.lt)
  have hgr : Below w.heap.size w (w.alloc (.cells #[.int .i64 a, .int .i64 b] 37)) := by go_grown
  have hS1 := hS.below (hgr.mono hLw)
  have hB1 : Blk (w.alloc (.cells #[.int .i64 a, .int .i64 b] 37)) hb s.cs 82 := h.below hgr h.lt
  have v0 := hS1.v0
  have v1 := hS1.v1
  have hall := fun q : Nat => all_any ((w.alloc (.cells #[.int .i64 a, .int .i64 b] 37)).drewN q) (show Blk _ hb s.cs 82 from hB1) ho
  have hBn : Blk (w.alloc (.cells #[.int .i64 a, .int .i64 b] 37)) w.heap.size #[.int .i64 a, .int .i64 b] 37 := heap_alloc_new w _
  have k0 : (w.alloc (.cells #[.int .i64 a, .int .i64 b] 37)).cell? ⟨w.heap.size, 0, none⟩ = some (.int .i64 a) := hBn.cell 0
  have k1 : (w.alloc (.cells #[.int .i64 a, .int .i64 b] 37)).cell? ⟨w.heap.size, 1, none⟩ = some (.int .i64 b) := hBn.cell 1
  have c3 : (w.alloc (.cells #[.int .i64 a, .int .i64 b] 37)).cell? ⟨hb, 3, none⟩ = some (.int .i64 s.c) := hB1.cell 3
  have HG : Hid _ := hgr
  have hR : 0 ≤ s.c - s.all ∧ s.c - s.all ≤ 1099511627776 ∧ 0 ≤ s.all := by obtain ⟨h1, h2, h3, h4, h5, h6⟩ := ho; unfold LS.all; omega
  by_cases hn : a < 0 ∨ b < 0
  · rw [show s.icode a b = 1 from by unfold LS.icode; rw [if_pos hn]]
    show Calls Tryz.prog 43 _ w fun r w' => r = .returned (.iface 185 (.pointer (some S.a0))) ∧ _
    clear hS hS1 h hB1 hall hBn hgr
    by_cases hlt : b < a
    · have hneg : b < 0 := by omega
      go_enter Tryz.func43, Tryz.ntmps43
      go_wp2
      go_ret
      exact ⟨rfl, HG.out⟩
    · have hneg : a < 0 := by omega
      go_enter Tryz.func43, Tryz.ntmps43
      go_wp2
      go_ret
      exact ⟨rfl, HG.out⟩
  · have hpa : 0 ≤ a := by omega
    have hpb : 0 ≤ b := by omega
    have e1 : IntKind.i64.wrap (s.c - s.all) = s.c - s.all := by rw [IntKind.wrap_i64]; omega
    have hc : 1 ≤ s.c ∧ s.c ≤ 1099511627776 := ⟨ho.c1, ho.c2⟩
    have hic : s.icode a b = if s.c - s.all < a + b then 61 else 0 := by unfold LS.icode; rw [if_neg hn]
    rw [hic]
    clear hS hS1 h hB1 hBn hgr ho hic hn
    generalize hm : s.all = m at *
    generalize s.c = c at *
    by_cases hlt : b < a
    · by_cases t1 : c - m + 1 < a
      · by_cases t2 : c - m + 1 < b
        · rw [if_pos (by omega)]
          show Calls Tryz.prog 43 _ w fun r w' => r = .returned (.iface 185 (.pointer (some S.a1))) ∧ _
          go_enter Tryz.func43, Tryz.ntmps43
          go_wp2
          go_quiet (first | (go_at_call 66; exact Calls.quiet_of (hall _)) | fail)
          go_wp2
          go_ret
          exact ⟨rfl, below_drewN _ HG.out⟩
        · rw [if_pos (by omega)]
          show Calls Tryz.prog 43 _ w fun r w' => r = .returned (.iface 185 (.pointer (some S.a1))) ∧ _
          go_enter Tryz.func43, Tryz.ntmps43
          go_wp2
          go_quiet (first | (go_at_call 66; exact Calls.quiet_of (hall _)) | fail)
          go_wp2
          go_ret
          exact ⟨rfl, below_drewN _ HG.out⟩
      · by_cases t2 : c - m + 1 < b
        · exfalso; omega
        · by_cases t3 : c - m < a + b
          · rw [if_pos (by omega)]
            show Calls Tryz.prog 43 _ w fun r w' => r = .returned (.iface 185 (.pointer (some S.a1))) ∧ _
            go_enter Tryz.func43, Tryz.ntmps43
            go_wp2
            go_quiet (first | (go_at_call 66; exact Calls.quiet_of (hall _)) | fail)
            go_wp2
            go_ret
            exact ⟨rfl, below_drewN _ HG.out⟩
          · rw [if_neg (by omega)]
            show Calls Tryz.prog 43 _ w fun r w' => r = .returned (.nilIface) ∧ _
            go_enter Tryz.func43, Tryz.ntmps43
            go_wp2
            go_quiet (first | (go_at_call 66; exact Calls.quiet_of (hall _)) | fail)
            go_wp2
            go_ret
            exact ⟨rfl, below_drewN _ HG.out⟩
    · by_cases t1 : c - m + 1 < a
      · by_cases t2 : c - m + 1 < b
        · rw [if_pos (by omega)]
          show Calls Tryz.prog 43 _ w fun r w' => r = .returned (.iface 185 (.pointer (some S.a1))) ∧ _
          go_enter Tryz.func43, Tryz.ntmps43
          go_wp2
          go_quiet (first | (go_at_call 66; exact Calls.quiet_of (hall _)) | fail)
          go_wp2
          go_ret
          exact ⟨rfl, below_drewN _ HG.out⟩
        · exfalso; omega
      · by_cases t2 : c - m + 1 < b
        · rw [if_pos (by omega)]
          show Calls Tryz.prog 43 _ w fun r w' => r = .returned (.iface 185 (.pointer (some S.a1))) ∧ _
          go_enter Tryz.func43, Tryz.ntmps43
          go_wp2
          go_quiet (first | (go_at_call 66; exact Calls.quiet_of (hall _)) | fail)
          go_wp2
          go_ret
          exact ⟨rfl, below_drewN _ HG.out⟩
        · by_cases t3 : c - m < a + b
          · rw [if_pos (by omega)]
            show Calls Tryz.prog 43 _ w fun r w' => r = .returned (.iface 185 (.pointer (some S.a1))) ∧ _
            go_enter Tryz.func43, Tryz.ntmps43
            go_wp2
            go_quiet (first | (go_at_call 66; exact Calls.quiet_of (hall _)) | fail)
            go_wp2
            go_ret
            exact ⟨rfl, below_drewN _ HG.out⟩
          · rw [if_neg (by omega)]
            show Calls Tryz.prog 43 _ w fun r w' => r = .returned (.nilIface) ∧ _
            go_enter Tryz.func43, Tryz.ntmps43
            go_wp2
            go_quiet (first | (go_at_call 66; exact Calls.quiet_of (hall _)) | fail)
            go_wp2
            go_ret
            exact ⟨rfl, below_drewN _ HG.out⟩
set_option maxRecDepth 100000 in
set_option maxHeartbeats 1600000 in
theorem mayGo_any {S : Sens} {L hb : Nat} {s : LS} (w : World) (hS : Sen S L w) (h : Blk w hb s.cs 82) (ho : s.Ok) (hL : L ≤ hb) (a b : Int) :
    Calls Tryz.prog 60 #[.pointer (some ⟨hb, 0, none⟩), .agg #[.int .i64 a, .int .i64 b]] w fun r w' => r = .returned (errV S (s.ocode a b)) ∧ Below w.heap.size w w' := by
  have hLw : L ≤ w.heap.size := Nat.le_of_lt (Nat.lt_of_le_of_lt hL h.lt)
  have hgr : Below w.heap.size w (w.alloc (.cells #[.int .i64 a, .int .i64 b] 37)) := by go_grown
  have hS1 := hS.below (hgr.mono hLw)
  have hB1 : Blk (w.alloc (.cells #[.int .i64 a, .int .i64 b] 37)) hb s.cs 82 := h.below hgr h.lt
  have v0 := hS1.v0
  have v2 := hS1.v2
  have hBn : Blk (w.alloc (.cells #[.int .i64 a, .int .i64 b] 37)) w.heap.size #[.int .i64 a, .int .i64 b] 37 := heap_alloc_new w _
  have k0 : (w.alloc (.cells #[.int .i64 a, .int .i64 b] 37)).cell? ⟨w.heap.size, 0, none⟩ = some (.int .i64 a) := hBn.cell 0
  have k1 : (w.alloc (.cells #[.int .i64 a, .int .i64 b] 37)).cell? ⟨w.heap.size, 1, none⟩ = some (.int .i64 b) := hBn.cell 1
  have c0 : (w.alloc (.cells #[.int .i64 a, .int .i64 b] 37)).cell? ⟨hb, 0, none⟩ = some (.int .i64 s.d) := hB1.cell 0
  have c1 : (w.alloc (.cells #[.int .i64 a, .int .i64 b] 37)).cell? ⟨hb, 1, none⟩ = some (.int .i64 s.u) := hB1.cell 1
  have HG : Hid _ := hgr
  unfold LS.ocode
  clear hS hS1 h hB1 hBn hgr ho
  generalize s.d = d at *
  generalize s.u = u at *
  by_cases hn : a < 0 ∨ b < 0
  · rw [if_pos hn]
    show Calls Tryz.prog 60 _ w fun r w' => r = .returned (.iface 185 (.pointer (some S.a0))) ∧ _
    by_cases hlt : b < a
    · have hneg : b < 0 := by omega
      go_enter Tryz.func60, Tryz.ntmps60
      go_wp2
      go_ret
      exact ⟨rfl, HG.out⟩
    · have hneg : a < 0 := by omega
      go_enter Tryz.func60, Tryz.ntmps60
      go_wp2
      go_ret
      exact ⟨rfl, HG.out⟩
  · have hpa : 0 ≤ a := by omega
    have hpb : 0 ≤ b := by omega
    rw [if_neg hn]
    clear hn
    by_cases hlt : b < a
    · by_cases t1 : d < a
      · rw [if_pos (by omega)]
        show Calls Tryz.prog 60 _ w fun r w' => r = .returned (.iface 185 (.pointer (some S.a2))) ∧ _
        have g1 : decide (d < a) = true := by simpa using t1
        go_enter Tryz.func60, Tryz.ntmps60
        go_wp2
        go_quiet (fail)
        go_wp2
        go_ret
        exact ⟨rfl, below_drewN _ HG.out⟩
      · have g1 : decide (d < a) = false := by simpa using t1
        by_cases t2 : u < b
        · rw [if_pos (by omega)]
          show Calls Tryz.prog 60 _ w fun r w' => r = .returned (.iface 185 (.pointer (some S.a2))) ∧ _
          have g2 : decide (u < b) = true := by simpa using t2
          go_enter Tryz.func60, Tryz.ntmps60
          go_wp2
          go_quiet (fail)
          go_wp2
          go_ret
          exact ⟨rfl, below_drewN _ HG.out⟩
        · rw [if_neg (by omega)]
          show Calls Tryz.prog 60 _ w fun r w' => r = .returned (.nilIface) ∧ _
          have g2 : decide (u < b) = false := by simpa using t2
          go_enter Tryz.func60, Tryz.ntmps60
          go_wp2
          go_quiet (fail)
          go_wp2
          go_ret
          exact ⟨rfl, below_drewN _ HG.out⟩
    · by_cases t1 : d < a
      · rw [if_pos (by omega)]
        show Calls Tryz.prog 60 _ w fun r w' => r = .returned (.iface 185 (.pointer (some S.a2))) ∧ _
        have g1 : decide (d < a) = true := by simpa using t1
        go_enter Tryz.func60, Tryz.ntmps60
        go_wp2
        go_quiet (fail)
        go_wp2
        go_ret
        exact ⟨rfl, below_drewN _ HG.out⟩
      · have g1 : decide (d < a) = false := by simpa using t1
        by_cases t2 : u < b
        · rw [if_pos (by omega)]
          show Calls Tryz.prog 60 _ w fun r w' => r = .returned (.iface 185 (.pointer (some S.a2))) ∧ _
          have g2 : decide (u < b) = true := by simpa using t2
          go_enter Tryz.func60, Tryz.ntmps60
          go_wp2
          go_quiet (fail)
          go_wp2
          go_ret
          exact ⟨rfl, below_drewN _ HG.out⟩
        · rw [if_neg (by omega)]
          show Calls Tryz.prog 60 _ w fun r w' => r = .returned (.nilIface) ∧ _
          have g2 : decide (u < b) = false := by simpa using t2
          go_enter Tryz.func60, Tryz.ntmps60
          go_wp2
          go_quiet (fail)
          go_wp2
          go_ret
          exact ⟨rfl, below_drewN _ HG.out⟩
end Go.Proofs.YtnphkmdanicemaaGreatDoor.Led

