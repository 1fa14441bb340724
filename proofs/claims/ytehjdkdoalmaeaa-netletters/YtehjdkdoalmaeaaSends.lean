import Derived.Test.YtehjdkdoalmaeaaSends0
namespace Go.Proofs.Ytehjdkdoalmaeaa
open Go.RowKit Go.PlainAid
set_option linter.unusedVariables false
set_option linter.unusedSimpArgs false
structure PSame (s s' : PS) : Prop where
  ks : s'.ks = s.ks
  ms : s'.ms = s.ms
  ls : s'.ls = s.ls
  ws : s'.ws = s.ws
  fl : s'.fl = s.fl
  mark : s'.mark = s.mark
  turns : s'.turns = s.turns
  size : s'.size = s.size
theorem run_size5 (w : World) : (sizeOf 5).run Try.prog w = .ok 1 w := by
  cases hq : Try.prog.info? 5 with
  | none => have := size5; rw [hq] at this; cases this
  | some i =>
    have hi : i.size = 1 := by have := size5; rw [hq] at this; simpa using this
    simp [sizeOf, typeInfo, hq, hi]
theorem slice_to5 (g n cap l : Nat) (hl : l ≤ cap) (w : World) : (Instr.sliceAt 29 (.slice (some ⟨g, 0, none⟩) n cap) none (some (.int .i64 (l : Nat))) none).run Try.prog w = .ok (.slice (some ⟨g, 0, none⟩) l cap) w := by
  have hb : (Instr.sliceBound (.int .i64 (l : Nat)) cap .sliceAcap).run Try.prog w = .ok l w := by
    rw [run_sliceBound (P := Try.prog) w .i64 (l : Nat) cap .sliceAcap (by omega) (by omega)]
    simp
  simp only [Instr.sliceAt, Instr.slice, Instr.sliceBounds, Sem.run_bind, run_underlying Try.underlying29, Result.andThen_ok, Sem.run_pure, if_true, hb, run_size5]
  simp only [Option.map_some, addr_add, Nat.zero_mul, Nat.add_zero, Nat.sub_zero, ite_self]
theorem doneS5 {G : Prop} {N : Nat} {a : Act} {f : Nat → Value} {p0 p1 p2 p3 p4 : Nat} {v0 v1 v2 v3 v4 : Value} (hF : Fr N a f) (k0 : f p0 = v0) (k1 : f p1 = v1) (k2 : f p2 = v2) (k3 : f p3 = v3) (k4 : f p4 = v4) (h : ∀ f', Fr N a f' → f' p0 = v0 → f' p1 = v1 → f' p2 = v2 → f' p3 = v3 → f' p4 = v4 → G) : G := h f hF k0 k1 k2 k3 k4
theorem doneS6 {G : Prop} {N : Nat} {a : Act} {f : Nat → Value} {p0 p1 p2 p3 p4 p5 : Nat} {v0 v1 v2 v3 v4 v5 : Value} (hF : Fr N a f) (k0 : f p0 = v0) (k1 : f p1 = v1) (k2 : f p2 = v2) (k3 : f p3 = v3) (k4 : f p4 = v4) (k5 : f p5 = v5) (h : ∀ f', Fr N a f' → f' p0 = v0 → f' p1 = v1 → f' p2 = v2 → f' p3 = v3 → f' p4 = v4 → f' p5 = v5 → G) : G := h f hF k0 k1 k2 k3 k4 k5
theorem own_set {w : World} {L n g cap k : Nat} {bs : List UInt8} (h : w.ownsRow L 5 1 (.slice (some ⟨g, 0, none⟩) n cap) n (bs.map B)) (u : UInt8) (hk : k < n) : (w.setCell ⟨g, k, none⟩ (B u)).ownsRow L 5 1 (.slice (some ⟨g, 0, none⟩) n cap) n ((bs.set k u).map B) := by
  have hl : bs.length = n := by have := h.1; simpa using this
  rcases h.2 with ⟨e, _⟩ | ⟨g', cap', cur, e, hg, hrow, hc, hcm, hcs, htk⟩
  · cases e
  · cases e
    refine ⟨by simp [hl], Or.inr ⟨g, cap, cur.setIfInBounds k (B u), rfl, hg, Blk.set hrow k (B u), hc, hcm, by simp [hcs], ?_⟩⟩
    rw [Array.toList_setIfInBounds, List.take_set, htk, List.map_set]
/-- The lent row is written into. -/
theorem PInv.write {L pb hbn hbr room : Nat} {s : PS} {w : World} (h : PInv L pb hbn hbr room s w) {g cap k : Nat} (hv : s.vl = .slice (some ⟨g, 0, none⟩) s.lent.length cap) (u : UInt8) (hk : k < s.lent.length) : PInv L pb hbn hbr room { s with lent := s.lent.set k u } (w.setCell ⟨g, k, none⟩ (B u)) ∧ PStp pb hbn hbr s { s with lent := s.lent.set k u } w (w.setCell ⟨g, k, none⟩ (B u)) := by
  have hl := h.lentO
  rw [hv] at hl
  have h1 := own_set hl u hk
  refine ⟨h.relent (by rw [hv, List.length_set]; exact h1) (fun j _ hj => Below.heap_setCell _ _ _ _ (fun e => hj (by rw [hv, e]; rfl))), ⟨rfl, rfl, rfl, by simp [World.setCell], fun j hj hn => Below.heap_setCell _ _ _ _ (fun e => hn (Or.inr (Or.inr (Or.inr (foot_of (u := s.vl) (by simp [PS.vals, PS.part3]) (by rw [hv, e]; rfl))))) ), fun j hj => Or.inl hj⟩⟩
set_option maxRecDepth 100000 in
set_option maxHeartbeats 6400000 in
theorem sends_any {L pb hbn hbr room : Nat} {s : PS} (w : World) (h : PInv L pb hbn hbr room s w) (ha : PAg room s) (hroom : room ≤ 1024) (hLw : L ≤ w.heap.size) (hLb : L ≤ pb ∧ L ≤ hbn ∧ L ≤ hbr)
    (f t : Int) (lao : Option Addr) (lcap : Nat) (lbs : List UInt8) (hln : lbs.length ≤ 1048576) (hnil : lao = none → lbs.length = 0 ∧ lcap = 0) (hf : From w lao lbs) (hlow : 0 < lbs.length → ∀ b o, lao = some ⟨b, o, none⟩ → b < w.heap.size ∧ ¬ s.has pb hbn hbr b) :
    Calls Try.prog 32 #[.pointer (some ⟨pb, 0, none⟩), .agg (letC f t (.slice lao lbs.length lcap))] w fun e w' => e = .returned (.bool true) ∧ ∃ s', PInv L pb hbn hbr room s' w' ∧ PAg room s' ∧ PStp pb hbn hbr s s' w w' ∧ PSame s s' := by
  show Calls Try.prog 32 #[.pointer (some ⟨pb, 0, none⟩), .agg #[.int .i64 f, .int .i64 t, .slice lao lbs.length lcap]] w _
  have hfA : From (w.alloc (.cells #[.int .i64 f, .int .i64 t, .slice lao lbs.length lcap] 31)) lao lbs := hf.alloc _
  have hB0 : Blk (w.alloc (.cells #[.int .i64 f, .int .i64 t, .slice lao lbs.length lcap] 31)) w.heap.size (letC f t (.slice lao lbs.length lcap)) 31 := heap_alloc_new w _
  have hb0 : Below w.heap.size w (w.alloc (.cells #[.int .i64 f, .int .i64 t, .slice lao lbs.length lcap] 31)) := by go_grown
  go_enter Try.func32, Try.ntmps32
  go_wp2_with (first
    | (at_builtin; go_must (refine wpList_append_bytes rfl _ _ rfl (w.heap.size + 1) 0 _ [] rfl (World.ownsRow_nil _ _ _ _) lao lbs.length lcap lbs rfl rfl hnil hfA (by omega) (by simp) ?_))
    | fail)
  intro v1 w1 hown1 hg1
  replace hown1 : w1.ownsRow (w.heap.size + 1) 5 1 v1 lbs.length (lbs.map B) := by simpa using hown1
  have hb1 : Below (w.heap.size + 1) (w.alloc (.cells #[.int .i64 f, .int .i64 t, .slice lao lbs.length lcap] 31)) w1 := (Below.refl _ _).grown hg1 (by simp) (fun k h => by cases h)
  obtain ⟨ao1, cap1, rfl, hc1, _, hs1, hl1⟩ := own_from hown1
  have hsz := hb1.size
  rw [World.size_alloc] at hsz
  have hm : From (w1.alloc (.cells #[.int .u8 167, .int .u8 182] 5 (0, 0))) (some ⟨w1.heap.size, 0, none⟩) [167, 182] := from_mark w1 [167, 182] _ _ rfl
  clear hg1
  go_wp2_with (first
    | (at_builtin; go_must (refine wpList_append_bytes rfl _ _ rfl (w.heap.size + 1) lbs.length _ lbs rfl (hown1.alloc _) _ 2 2 [167, 182] rfl rfl (by intro h; cases h) hm (by omega) (by simp; omega) ?_))
    | fail)
  intro v2 w2 hown2 hg2
  replace hown2 : w2.ownsRow (w.heap.size + 1) 5 1 v2 (lbs.length + 2) ((lbs ++ [167, 182]).map B) := by simpa using hown2
  have hb2 : Below (w.heap.size + 1) (w.alloc (.cells #[.int .i64 f, .int .i64 t, .slice lao lbs.length lcap] 31)) w2 := (hb1.alloc (by simpa using hsz) _).grown hg2 (by simp; omega) (fun k e => (hown1.lt k e).1)
  have hbw2 : Below w.heap.size w w2 := hb0.trans (hb2.mono (by omega))
  have hB2 : Blk w2 w.heap.size (letC f t (.slice lao lbs.length lcap)) 31 := (hb2.block _ (by omega)).trans hB0
  have hP2 := h.below hbw2
  obtain ⟨lo, lcc, hvl, _⟩ := own_slice h.lentO
  have c5 : w2.cell? ⟨pb, 5, none⟩ = some (.slice lo s.lent.length lcc) := by rw [hP2.cell 5, ← hvl]; rfl
  have z5 : w2.frozen? ⟨pb, 5, none⟩ = false := by simp [World.frozen?, hP2.box]
  obtain ⟨gc2, cap2, rfl, hcap2⟩ : ∃ g c, v2 = .slice (some ⟨g, 0, none⟩) (lbs.length + 2) c ∧ lbs.length + 2 ≤ c := by
    rcases hown2.2 with ⟨_, h0⟩ | ⟨g, c, cur, e, _, _, hc, _⟩
    · omega
    · exact ⟨g, c, e, hc⟩
  clear hg2 hs1 hm hown1 hb1 hfA
  by_cases heq : s.lent.length = lbs.length + 2
  · have hq : (s.lent.length : Int) = (lbs.length : Int) + 2 := by omega
    obtain ⟨gA, cA, hvA, hcA⟩ : ∃ g c, s.vl = .slice (some ⟨g, 0, none⟩) (lbs.length + 2) c ∧ lbs.length + 2 ≤ c := by
      have hl := h.lentO
      rw [heq] at hl
      rcases hl.2 with ⟨_, h0⟩ | ⟨g, c, cur, e, _, _, hc, _⟩
      · omega
      · exact ⟨g, c, e, hc⟩
    have hgA : gA < w.heap.size := by
      have hl := h.lentO
      rw [hvA] at hl
      exact (hl.lt gA rfl).2
    have hgp : gA ≠ pb := fun e => (h.notBox s.vl (by simp [PS.vals, PS.part3]) gA (by rw [hvA]; rfl)).1 e
    have hu2 : w2.ownsRow L 5 1 s.vl (lbs.length + 2) (s.lent.map B) := by have := hP2.lentO; rwa [heq] at this
    have hx2 := ownsRow_mono hown2 (show L ≤ w.heap.size + 1 by omega)
    rw [hvA] at hu2
    have c5' : w2.cell? ⟨pb, 5, none⟩ = some (.slice (some ⟨gA, 0, none⟩) (lbs.length + 2) cA) := by rw [hP2.cell 5, ← hvA]; rfl
    obtain ⟨w3, hcp, hu3, hw3, hk3⟩ := copy_all hu2 hx2 3
    have hk3p : w3.heap[pb]? = w2.heap[pb]? := hk3 pb (fun e => hgp (Option.some.inj e))
    have c53 : w3.cell? ⟨pb, 5, none⟩ = some (.slice (some ⟨gA, 0, none⟩) (lbs.length + 2) cA) := (World.cell?_of_block hk3p).trans c5'
    have z53 : w3.frozen? ⟨pb, 5, none⟩ = false := by simp [World.frozen?, hk3p.trans hP2.box]
    have hP4 := h.putLent (w2 := w3) (u' := .slice (some ⟨gA, 0, none⟩) (lbs.length + 2) cA) (lent' := lbs ++ [167, 182]) (by rw [List.length_append]; exact hu3) (fun k hk hn => (hk3 k (by rw [← hvA]; exact hn)).trans (hbw2.block k hk)) (fun j hj => Or.inl (by rw [hvA]; exact hj))
    have hS4 := PStp.lent (pb := pb) (hbn := hbn) (hbr := hbr) (s := s) (w := w) (w2 := w3) (u' := .slice (some ⟨gA, 0, none⟩) (lbs.length + 2) cA) (lent' := lbs ++ [167, 182]) ⟨hw3.1.trans hbw2.os, hw3.2.1.trans hbw2.tape, hw3.2.2.1.trans hbw2.output, by have := hbw2.size; have := hw3.2.2.2; omega⟩ (fun k hk hn => (hk3 k (by rw [← hvA]; exact hn)).trans (hbw2.block k hk)) (fun j hj => Or.inl (by rw [hvA]; exact hj))
    have hB4 : Blk (w3.setCell ⟨pb, 5, none⟩ (.slice (some ⟨gA, 0, none⟩) (lbs.length + 2) cA)) w.heap.size (letC f t (.slice lao lbs.length lcap)) 31 := (Below.heap_setCell _ _ _ _ (by have := h.pblt; show _ ≠ pb; omega)).trans ((hk3 w.heap.size (fun e => by have e' : gA = w.heap.size := Option.some.inj e; omega)).trans hB2)
    have HP : Hid _ := hP4
    have HS : Hid _ := hS4
    have HB : Hid _ := hB4
    clear hP2 hown2 hvl hP4 hS4 hB4 hB2 hbw2 hb2 hb0 hB0 c5 hu2 hx2 hc1 hl1 hu3 hw3 hk3 hk3p z5
    go_wp2_with fail
    have hP4 := HP.out
    have hS4 := HS.out
    have hB4 : Blk (w3.setCell ⟨pb, 5, none⟩ (.slice (some ⟨gA, 0, none⟩) (lbs.length + 2) cA)) w.heap.size (letC f t (.slice lao lbs.length lcap)) 31 := HB.out
    clear HP HS HB c5' c53 z53 hcp
    generalize (w3.setCell ⟨pb, 5, none⟩ (.slice (some ⟨gA, 0, none⟩) (lbs.length + 2) cA)) = W4 at *
    generalize hs4 : ({ s with vl := .slice (some ⟨gA, 0, none⟩) (lbs.length + 2) cA, lent := lbs ++ [167, 182] } : PS) = s4 at *
    have hs4l : s4.lent = lbs ++ [167, 182] := by rw [← hs4]
    have hs4v : s4.vl = .slice (some ⟨gA, 0, none⟩) (lbs.length + 2) cA := by rw [← hs4]
    have hs4b : s4.lv.length = s.lv.length := by rw [← hs4]
    have hs4w : s4.v = s.v := by rw [← hs4]
    have hlen := ha.len
    by_cases hfull : s.lv.length < room
    · rename_i K hK
      try rw [show ∀ a : Act, a.put none undef = a from fun _ => rfl]
      refine wp_region_mix (fun wr => wr.heap[pb]? = W4.heap[pb]? ∧ wr.heap[w.heap.size]? = W4.heap[w.heap.size]?) (fun i => i == 12 || i == 14) 14 (by kernel_rfl) rfl (by kernel_rfl) (by kernel_rfl) (by kernel_rfl) ?_
      have hP5 : PInv L pb hbn hbr room s4 ({ W4 with drawn := W4.drawn + 1 } : World) := hP4.keep fun _ _ => rfl
      have hS5 : PStp pb hbn hbr s s4 w ({ W4 with drawn := W4.drawn + 1 } : World) := ⟨hS4.os, hS4.tape, hS4.output, hS4.size, hS4.block, hS4.has⟩
      have hB5 : Blk ({ W4 with drawn := W4.drawn + 1 } : World) w.heap.size (letC f t (.slice lao lbs.length lcap)) 31 := hB4
      have hC : ({ W4 with drawn := W4.drawn + 1 } : World).heap[pb]? = W4.heap[pb]? ∧ ({ W4 with drawn := W4.drawn + 1 } : World).heap[w.heap.size]? = W4.heap[w.heap.size]? := ⟨rfl, rfl⟩
      generalize ({ W4 with drawn := W4.drawn + 1 } : World) = W5 at *
      have hz5 := hS5.size
      have hfc : From W5 (some ⟨gA, 0, none⟩) lbs := by
        have hl := hP5.lentO
        rw [hs4l, hs4v, List.length_append] at hl
        obtain ⟨xo, xc, e, _, _, hfr, _⟩ := own_from hl
        cases e
        intro h0
        obtain ⟨b, o, e, hc⟩ := hfr (by simp)
        exact ⟨b, o, e, fun j u hu => hc j u (by rw [List.getElem?_append_left (List.getElem?_eq_some_iff.1 hu).1]; exact hu)⟩
      have hgc : gA < W5.heap.size := by
        have hl := hP5.lentO
        rw [hs4v] at hl
        exact (hl.lt gA rfl).2
      have hsend := send_room W5 hP5.bag hroom (by rw [hs4b]; omega) (by omega) f t (some ⟨gA, 0, none⟩) lbs.length cA lbs rfl (by intro h; cases h) (by omega) hfc (fun b o e => by cases e; exact hgc)
      refine withFrL (N := 103) rfl ?_
      intro a0 f0 F0 hff
      have hs0 : f0 0 = Value.pointer (some ⟨pb, 0, none⟩) := hff 0
      have hs3 : f0 3 = Value.pointer (some ⟨w.heap.size, 0, none⟩) := hff 3
      have hs5 : f0 5 = Value.int .i64 (lbs.length : Nat) := hff 5
      have hs6 : f0 6 = Value.slice (some ⟨gA, 0, none⟩) (lbs.length + 2) cA := hff 6
      clear hff
      refine ly F0 rfl hC rfl (by omega) (wanted_none rfl) (v := Value.pointer (some ⟨pb, 0, none⟩)) (fun wr hwr => by simp only [execOp, (F0.eval 0 (by omega)).trans (show _ = Value.pointer (some ⟨pb, 0, none⟩) from by simp [upd, hs0, hs3, hs5, hs6])]; first | rfl | simp [go_sem]) fun a1 F1 => ?_
      refine ly F1 rfl hC rfl (by omega) (wanted_none rfl) (v := Value.pointer (some ⟨pb, 0, none⟩)) (fun wr hwr => by simp only [execOp, (F1.eval 42 (by omega)).trans (show _ = Value.pointer (some ⟨pb, 0, none⟩) from by simp [upd, hs0, hs3, hs5, hs6])]; first | rfl | simp [go_sem]) fun a2 F2 => ?_
      refine ly F2 rfl hC rfl (by omega) (wanted_none rfl) (v := Value.pointer (some ⟨pb, 0, none⟩)) (fun wr hwr => by simp only [execOp, (F2.eval 43 (by omega)).trans (show _ = Value.pointer (some ⟨pb, 0, none⟩) from by simp [upd, hs0, hs3, hs5, hs6])]; first | rfl | simp [go_sem]) fun a3 F3 => ?_
      refine ly F3 rfl hC rfl (by omega) (wanted_none rfl) (v := Value.pointer (some ⟨hbn, 0, none⟩)) (fun wr hwr => by simp only [execOp, (F3.eval 44 (by omega)).trans (show _ = Value.pointer (some ⟨pb, 0, none⟩) from by simp [upd, hs0, hs3, hs5, hs6])]; simp [go_sem, (show wr.cell? ⟨pb, 0, none⟩ = some (Value.pointer (some ⟨hbn, 0, none⟩)) from (World.cell?_of_block (w := W4) hwr.1).trans (hP4.cell 0))]) fun a4 F4 => ?_
      refine ly F4 rfl hC rfl (by omega) (wanted_none rfl) (v := Value.pointer (some ⟨w.heap.size, 0, none⟩)) (fun wr hwr => by simp only [execOp, (F4.eval 3 (by omega)).trans (show _ = Value.pointer (some ⟨w.heap.size, 0, none⟩) from by simp [upd, hs0, hs3, hs5, hs6])]; first | rfl | simp [go_sem]) fun a5 F5 => ?_
      refine ly F5 rfl hC rfl (by omega) (wanted_none rfl) (v := Value.int .i64 f) (fun wr hwr => by simp only [execOp, (F5.eval 46 (by omega)).trans (show _ = Value.pointer (some ⟨w.heap.size, 0, none⟩) from by simp [upd, hs0, hs3, hs5, hs6])]; simp [go_sem, (show wr.cell? ⟨w.heap.size, 0, none⟩ = some (Value.int .i64 f) from (World.cell?_of_block (w := W4) hwr.2).trans (hB4.cell 0))]) fun a6 F6 => ?_
      refine ly F6 rfl hC rfl (by omega) (wanted_none rfl) (v := Value.pointer (some ⟨w.heap.size, 1, none⟩)) (fun wr hwr => by simp only [execOp, (F6.eval 3 (by omega)).trans (show _ = Value.pointer (some ⟨w.heap.size, 0, none⟩) from by simp [upd, hs0, hs3, hs5, hs6])]; first | rfl | simp [go_sem]) fun a7 F7 => ?_
      refine ly F7 rfl hC rfl (by omega) (wanted_none rfl) (v := Value.int .i64 t) (fun wr hwr => by simp only [execOp, (F7.eval 48 (by omega)).trans (show _ = Value.pointer (some ⟨w.heap.size, 1, none⟩) from by simp [upd, hs0, hs3, hs5, hs6])]; simp [go_sem, (show wr.cell? ⟨w.heap.size, 1, none⟩ = some (Value.int .i64 t) from (World.cell?_of_block (w := W4) hwr.2).trans (hB4.cell 1))]) fun a8 F8 => ?_
      refine ly F8 rfl hC rfl (by omega) (wanted_none rfl) (v := Value.slice (some ⟨gA, 0, none⟩) (lbs.length + 2) cA) (fun wr hwr => by simp only [execOp, (F8.eval 6 (by omega)).trans (show _ = Value.slice (some ⟨gA, 0, none⟩) (lbs.length + 2) cA from by simp [upd, hs0, hs3, hs5, hs6])]; first | rfl | simp [go_sem]) fun a9 F9 => ?_
      refine ly F9 rfl hC rfl (by omega) (wanted_none rfl) (v := Value.int .i64 (lbs.length : Nat)) (fun wr hwr => by simp only [execOp, (F9.eval 5 (by omega)).trans (show _ = Value.int .i64 (lbs.length : Nat) from by simp [upd, hs0, hs3, hs5, hs6])]; first | rfl | simp [go_sem]) fun a10 F10 => ?_
      refine ly F10 rfl hC rfl (by omega) (wanted_none rfl) (v := Value.slice (some ⟨gA, 0, none⟩) lbs.length cA) (fun wr hwr => by simp only [execOp, Option.map_some, Option.map_none, (F10.eval 50 (by omega)).trans (show _ = Value.slice (some ⟨gA, 0, none⟩) (lbs.length + 2) cA from by simp [upd, hs0, hs3, hs5, hs6]), (F10.eval 51 (by omega)).trans (show _ = Value.int .i64 (lbs.length : Nat) from by simp [upd, hs0, hs3, hs5, hs6]), Sem.run_bind, slice_to5 gA (lbs.length + 2) cA lbs.length (by omega) wr, Result.andThen_ok, Sem.run_pure]) fun a11 F11 => ?_
      refine ly F11 rfl hC rfl (by omega) (wanted_none rfl) (v := Value.agg (letC f t (Value.slice (some ⟨gA, 0, none⟩) lbs.length cA))) (fun wr hwr => by simp only [execOp, List.map_toArray, List.map_cons, List.map_nil, (F11.eval 47 (by omega)).trans (show _ = Value.int .i64 f from by simp [upd, hs0, hs3, hs5, hs6]), (F11.eval 49 (by omega)).trans (show _ = Value.int .i64 t from by simp [upd, hs0, hs3, hs5, hs6]), (F11.eval 52 (by omega)).trans (show _ = Value.slice (some ⟨gA, 0, none⟩) lbs.length cA from by simp [upd, hs0, hs3, hs5, hs6])]; simp [go_sem, letC]) fun a12 F12 => ?_
      refine lc F12 rfl hC rfl (by omega) (wanted_none rfl) (g := 10) (args := #[.pointer (some ⟨hbn, 0, none⟩), .agg (letC f t (.slice (some ⟨gA, 0, none⟩) lbs.length cA))]) (by simp only [execOp, resolve, invoke, List.map_toArray, List.map_cons, List.map_nil, (F12.eval 45 (by omega)).trans (show _ = Value.pointer (some ⟨hbn, 0, none⟩) from by simp [upd, hs0, hs3, hs5, hs6]), (F12.eval 53 (by omega)).trans (show _ = Value.agg (letC f t (Value.slice (some ⟨gA, 0, none⟩) lbs.length cA)) from by simp [upd, hs0, hs3, hs5, hs6])]; simp [go_sem, Act.eval]) hsend ?_
      rintro e5 W6 ⟨rfl, v6, d6, hB6, hst6, hfr6⟩
      refine ⟨_, rfl, fun a13 F13 => ?_⟩
      have hvb : s4.v.ownBlock ≠ some w.heap.size := fun e => by have := (h.bag.own.lt w.heap.size (by rw [← hs4w]; exact e)).2; omega
      have hC6 : W6.heap[pb]? = W4.heap[pb]? ∧ W6.heap[w.heap.size]? = W4.heap[w.heap.size]? := ⟨(hst6.block pb hP5.pblt hP5.pbne.1 (fun e => (hP5.notBox s4.v (by simp [PS.vals, PS.part1]) pb e).1 rfl)).trans hC.1, (hst6.block w.heap.size hB5.lt (by have := h.bag.lt; omega) hvb).trans hC.2⟩
      refine ly F13 rfl hC6 rfl (by omega) (wanted_none rfl) (v := Value.int .i64 0) (fun wr hwr => by simp only [execOp, (F13.eval 54 (by omega)).trans (show _ = Value.int .i64 0 from by simp [upd, hs0, hs3, hs5, hs6])]; first | rfl | simp [go_sem]) fun a14 F14 => ?_
      refine ⟨fun _ => hC6, ?_⟩
      have hP6 := hP5.send (x := ⟨f, t, d6, lbs⟩) hB6 hst6 hfr6
      have hS6 := hS5.trans (PStp.send (x := ⟨f, t, d6, lbs⟩) hst6 hfr6)
      have hB6x : Blk W6 w.heap.size (letC f t (.slice lao lbs.length lcap)) 31 := hC6.2.trans hB4
      refine doneS5 F14 (p0 := 0) (p1 := 3) (p2 := 5) (p3 := 6) (p4 := 7) (show _ = Value.pointer (some ⟨pb, 0, none⟩) from by simp [upd, hs0]) (show _ = Value.pointer (some ⟨w.heap.size, 0, none⟩) from by simp [upd, hs3]) (show _ = Value.int .i64 (lbs.length : Nat) from by simp [upd, hs5]) (show _ = Value.slice (some ⟨gA, 0, none⟩) (lbs.length + 2) cA from by simp [upd, hs6]) (show _ = Value.int .i64 0 from by simp [upd]) fun f' F' k0 k3 k5 k6 k7 => ?_
      clear F0 F1 F2 F3 F4 F5 F6 F7 F8 F9 F10 F11 F12 F13 F14 hs0 hs3 hs5 hs6 hsend hC hC6 hP5 hS5 hB5
      show K _ _
      apply hK
      rw [F'.lit, show ((List.range 103).map f').toArray = #[f' 0, f' 1, f' 2, f' 3, f' 4, f' 5, f' 6, f' 7, f' 8, f' 9, f' 10, f' 11, f' 12, f' 13, f' 14, f' 15, f' 16, f' 17, f' 18, f' 19, f' 20, f' 21, f' 22, f' 23, f' 24, f' 25, f' 26, f' 27, f' 28, f' 29, f' 30, f' 31, f' 32, f' 33, f' 34, f' 35, f' 36, f' 37, f' 38, f' 39, f' 40, f' 41, f' 42, f' 43, f' 44, f' 45, f' 46, f' 47, f' 48, f' 49, f' 50, f' 51, f' 52, f' 53, f' 54, f' 55, f' 56, f' 57, f' 58, f' 59, f' 60, f' 61, f' 62, f' 63, f' 64, f' 65, f' 66, f' 67, f' 68, f' 69, f' 70, f' 71, f' 72, f' 73, f' 74, f' 75, f' 76, f' 77, f' 78, f' 79, f' 80, f' 81, f' 82, f' 83, f' 84, f' 85, f' 86, f' 87, f' 88, f' 89, f' 90, f' 91, f' 92, f' 93, f' 94, f' 95, f' 96, f' 97, f' 98, f' 99, f' 100, f' 101, f' 102] from rfl, k0, k3, k5, k6, k7]
      clear F' k0 k3 k5 k6 k7
      go_wp2_with fail
      obtain ⟨s5, hs5⟩ : ∃ s5, s5 = ({ s4 with v := v6, lv := s4.lv ++ [⟨f, t, d6, lbs⟩] } : PS) := ⟨_, rfl⟩
      rw [← hs5] at hP6 hS6
      have hs5l : s5.lent = lbs ++ [167, 182] := by rw [hs5, ← hs4l]
      have hs5v : s5.vl = .slice (some ⟨gA, 0, none⟩) (lbs.length + 2) cA := by rw [hs5, ← hs4v]
      have hs5r : s5.lr = s.lr := by rw [hs5, ← hs4]
      have hs5q : s5.vr = s.vr := by rw [hs5, ← hs4]
      have hs5s : PSame s s5 := by rw [hs5, ← hs4]; exact ⟨rfl, rfl, rfl, rfl, rfl, rfl, rfl, rfl⟩
      have hs5b : s5.lv = s.lv ++ [⟨f, t, d6, lbs⟩] := by rw [hs5, ← hs4]
      have hrl : s.lr.length = s.lv.length := by have := congrArg List.length ha.keys; simpa using this.symm
      clear hs5 hP4 hS4 hst6 hB6
      rename_i K hK
      try rw [show ∀ a : Act, a.put none undef = a from fun _ => rfl]
      refine wp_region_mix (fun wr => wr.heap[pb]? = W6.heap[pb]? ∧ wr.heap[w.heap.size]? = W6.heap[w.heap.size]?) (fun i => i == 5 || i == 7) 7 (by kernel_rfl) rfl (by kernel_rfl) (by kernel_rfl) (by kernel_rfl) ?_
      have hP7 : PInv L pb hbn hbr room s5 ({ W6 with drawn := W6.drawn + 1 } : World) := hP6.keep fun _ _ => rfl
      have hS7 : PStp pb hbn hbr s s5 w ({ W6 with drawn := W6.drawn + 1 } : World) := ⟨hS6.os, hS6.tape, hS6.output, hS6.size, hS6.block, hS6.has⟩
      have hB7 : Blk ({ W6 with drawn := W6.drawn + 1 } : World) w.heap.size (letC f t (.slice lao lbs.length lcap)) 31 := hB6x
      have hC : ({ W6 with drawn := W6.drawn + 1 } : World).heap[pb]? = W6.heap[pb]? ∧ ({ W6 with drawn := W6.drawn + 1 } : World).heap[w.heap.size]? = W6.heap[w.heap.size]? := ⟨rfl, rfl⟩
      generalize ({ W6 with drawn := W6.drawn + 1 } : World) = W7 at *
      have hz7 := hS7.size
      have hfW : From W7 lao lbs := by
        intro h0
        obtain ⟨b, o, e, hc⟩ := hf h0
        have hbL := hlow h0 b o e
        exact ⟨b, o, e, fun j u hu => (World.cell?_of_block (w := w) (hS7.block b hbL.1 hbL.2)).trans (hc j u hu)⟩
      have hrs := rsend_room W7 hP7.ref hroom (by rw [hs5r]; omega) (by omega) f t lao lbs.length lcap lbs rfl (by omega) hfW
      refine withFrL (N := 103) rfl ?_
      intro a0 f0 F0 hff
      have hs0 : f0 0 = Value.pointer (some ⟨pb, 0, none⟩) := hff 0
      have hs3 : f0 3 = Value.pointer (some ⟨w.heap.size, 0, none⟩) := hff 3
      have hs5x : f0 5 = Value.int .i64 (lbs.length : Nat) := hff 5
      have hs6 : f0 6 = Value.slice (some ⟨gA, 0, none⟩) (lbs.length + 2) cA := hff 6
      have hs7 : f0 7 = Value.int .i64 0 := hff 7
      clear hff
      refine ly F0 rfl hC rfl (by omega) (wanted_none rfl) (v := Value.pointer (some ⟨pb, 0, none⟩)) (fun wr hwr => by simp only [execOp, (F0.eval 0 (by omega)).trans (show _ = Value.pointer (some ⟨pb, 0, none⟩) from by simp [upd, hs0, hs3, hs5x, hs6, hs7])]; first | rfl | simp [go_sem]) fun a1 F1 => ?_
      refine ly F1 rfl hC rfl (by omega) (wanted_none rfl) (v := Value.pointer (some ⟨pb, 0, none⟩)) (fun wr hwr => by simp only [execOp, (F1.eval 55 (by omega)).trans (show _ = Value.pointer (some ⟨pb, 0, none⟩) from by simp [upd, hs0, hs3, hs5x, hs6, hs7])]; first | rfl | simp [go_sem]) fun a2 F2 => ?_
      refine ly F2 rfl hC rfl (by omega) (wanted_none rfl) (v := Value.pointer (some ⟨pb, 1, none⟩)) (fun wr hwr => by simp only [execOp, (F2.eval 56 (by omega)).trans (show _ = Value.pointer (some ⟨pb, 0, none⟩) from by simp [upd, hs0, hs3, hs5x, hs6, hs7])]; first | rfl | simp [go_sem]) fun a3 F3 => ?_
      refine ly F3 rfl hC rfl (by omega) (wanted_none rfl) (v := Value.pointer (some ⟨hbr, 0, none⟩)) (fun wr hwr => by simp only [execOp, (F3.eval 57 (by omega)).trans (show _ = Value.pointer (some ⟨pb, 1, none⟩) from by simp [upd, hs0, hs3, hs5x, hs6, hs7])]; simp [go_sem, (show wr.cell? ⟨pb, 1, none⟩ = some (Value.pointer (some ⟨hbr, 0, none⟩)) from (World.cell?_of_block (w := W6) hwr.1).trans (hP6.cell 1))]) fun a4 F4 => ?_
      refine ly F4 rfl hC rfl (by omega) (wanted_none rfl) (v := Value.agg (letC f t (.slice lao lbs.length lcap))) (fun wr hwr => by simp only [execOp, (F4.eval 3 (by omega)).trans (show _ = Value.pointer (some ⟨w.heap.size, 0, none⟩) from by simp [upd, hs0, hs3, hs5x, hs6, hs7]), Instr.loadAt, Instr.sureAddr, Sem.run_bind, Sem.run_pure, Result.andThen_ok, run_loadVar_row (P := Try.prog) wr w.heap.size 31 31 (letC f t (.slice lao lbs.length lcap)) (0, 0) _ (hwr.2.trans hB6x) Try.underlying31 rfl (by kernel_rfl)]) fun a5 F5 => ?_
      refine lc F5 rfl hC rfl (by omega) (wanted_none rfl) (g := 43) (args := #[.pointer (some ⟨hbr, 0, none⟩), .agg (letC f t (.slice lao lbs.length lcap))]) (by simp only [execOp, resolve, invoke, List.map_toArray, List.map_cons, List.map_nil, (F5.eval 58 (by omega)).trans (show _ = Value.pointer (some ⟨hbr, 0, none⟩) from by simp [upd, hs0, hs3, hs5x, hs6, hs7]), (F5.eval 59 (by omega)).trans (show _ = Value.agg (letC f t (.slice lao lbs.length lcap)) from by simp [upd, hs0, hs3, hs5x, hs6, hs7])]; simp [go_sem, Act.eval]) hrs ?_
      rintro e8 W8 ⟨rfl, v8, d8, hB8, hst8, hfr8⟩
      refine ⟨_, rfl, fun a6 F6 => ?_⟩
      have hvb8 : s5.vr.ownBlock ≠ some w.heap.size := fun e => by have := (h.ref.own.lt w.heap.size (by rw [← hs5q]; exact e)).2; omega
      have hC8 : W8.heap[pb]? = W6.heap[pb]? ∧ W8.heap[w.heap.size]? = W6.heap[w.heap.size]? := ⟨(hst8.block pb hP7.pblt hP7.pbne.2.1 (fun e => (hP7.notBox s5.vr (by simp [PS.vals, PS.part2]) pb e).1 rfl)).trans hC.1, (hst8.block w.heap.size hB7.lt (by have := h.ref.lt; omega) hvb8).trans hC.2⟩
      refine ly F6 rfl hC8 rfl (by omega) (wanted_none rfl) (v := Value.int .i64 0) (fun wr hwr => by simp only [execOp, (F6.eval 60 (by omega)).trans (show _ = Value.int .i64 0 from by simp [upd, hs0, hs3, hs5x, hs6, hs7])]; first | rfl | simp [go_sem]) fun a7 F7 => ?_
      refine ⟨fun _ => hC8, ?_⟩
      have hP8 := hP7.rsend (x := ⟨f, t, d8, lbs⟩) hB8 hst8 hfr8
      have hS8 := hS7.trans (PStp.rsend (x := ⟨f, t, d8, lbs⟩) hst8 hfr8)
      have hB8x : Blk W8 w.heap.size (letC f t (.slice lao lbs.length lcap)) 31 := hC8.2.trans hB6x
      refine doneS6 F7 (p0 := 0) (p1 := 3) (p2 := 5) (p3 := 6) (p4 := 7) (p5 := 8) (show _ = Value.pointer (some ⟨pb, 0, none⟩) from by simp [upd, hs0]) (show _ = Value.pointer (some ⟨w.heap.size, 0, none⟩) from by simp [upd, hs3]) (show _ = Value.int .i64 (lbs.length : Nat) from by simp [upd, hs5x]) (show _ = Value.slice (some ⟨gA, 0, none⟩) (lbs.length + 2) cA from by simp [upd, hs6]) (show _ = Value.int .i64 0 from by simp [upd, hs7]) (show _ = Value.int .i64 0 from by simp [upd]) fun f' F' k0 k3 k5 k6 k7 k8 => ?_
      clear F0 F1 F2 F3 F4 F5 F6 F7 hs0 hs3 hs5x hs6 hs7 hrs hC hC8 hP7 hS7 hB7
      obtain ⟨s6, hs6⟩ : ∃ s6, s6 = ({ s5 with vr := v8, lr := s5.lr ++ [⟨f, t, d8, lbs⟩] } : PS) := ⟨_, rfl⟩
      rw [← hs6] at hP8 hS8
      have hs6l : s6.lent = lbs ++ [167, 182] := by rw [hs6, ← hs5l]
      have hs6v : s6.vl = .slice (some ⟨gA, 0, none⟩) (lbs.length + 2) cA := by rw [hs6, ← hs5v]
      have hs6s : PSame s s6 := by rw [hs6]; exact ⟨hs5s.ks, hs5s.ms, hs5s.ls, hs5s.ws, hs5s.fl, hs5s.mark, hs5s.turns, hs5s.size⟩
      have hA6 : PAg room s6 := by
        rw [hs6]
        refine ⟨?_, ?_, fun x hx => ?_⟩
        · show s5.lv.map LetV.k = (s5.lr ++ [(⟨f, t, d8, lbs⟩ : LetV)]).map LetV.k
          rw [hs5b, hs5r, List.map_append, List.map_append, ha.keys]
          rfl
        · show s5.lv.length ≤ room
          rw [hs5b]; simp; omega
        · have hx' : x ∈ s5.lv := hx
          rw [hs5b] at hx'
          rcases List.mem_append.1 hx' with q | q
          · exact ha.small x q
          · simp only [List.mem_singleton] at q
            subst q
            exact hln
      show K _ _
      apply hK
      rw [F'.lit, show ((List.range 103).map f').toArray = #[f' 0, f' 1, f' 2, f' 3, f' 4, f' 5, f' 6, f' 7, f' 8, f' 9, f' 10, f' 11, f' 12, f' 13, f' 14, f' 15, f' 16, f' 17, f' 18, f' 19, f' 20, f' 21, f' 22, f' 23, f' 24, f' 25, f' 26, f' 27, f' 28, f' 29, f' 30, f' 31, f' 32, f' 33, f' 34, f' 35, f' 36, f' 37, f' 38, f' 39, f' 40, f' 41, f' 42, f' 43, f' 44, f' 45, f' 46, f' 47, f' 48, f' 49, f' 50, f' 51, f' 52, f' 53, f' 54, f' 55, f' 56, f' 57, f' 58, f' 59, f' 60, f' 61, f' 62, f' 63, f' 64, f' 65, f' 66, f' 67, f' 68, f' 69, f' 70, f' 71, f' 72, f' 73, f' 74, f' 75, f' 76, f' 77, f' 78, f' 79, f' 80, f' 81, f' 82, f' 83, f' 84, f' 85, f' 86, f' 87, f' 88, f' 89, f' 90, f' 91, f' 92, f' 93, f' 94, f' 95, f' 96, f' 97, f' 98, f' 99, f' 100, f' 101, f' 102] from rfl, k0, k3, k5, k6, k7, k8]
      clear F' k0 k3 k5 k6 k7 k8 hs6 hP6 hS6 hB6x hs5l hs5v hs5r hs5q hs5s hs5b
      have hl8 := hP8.lentO
      rw [hs6l, hs6v, List.length_append] at hl8
      obtain ⟨xo, xc, ex, _, _, hfr8x, _⟩ := own_from hl8
      cases ex
      have hfc8 : From W8 (some ⟨gA, 0, none⟩) lbs := fun h0 => by
        obtain ⟨b, o, e, hc⟩ := hfr8x (by simp)
        exact ⟨b, o, e, fun j u hu => hc j u (by rw [List.getElem?_append_left (List.getElem?_eq_some_iff.1 hu).1]; exact hu)⟩
      have hfl8 : From W8 lao lbs := by
        intro h0
        obtain ⟨b, o, e, hc⟩ := hf h0
        have hbL := hlow h0 b o e
        exact ⟨b, o, e, fun j u hu => (World.cell?_of_block (w := w) (hS8.block b hbL.1 hbL.2)).trans (hc j u hu)⟩
      have q1 : W8.cell? ⟨gA, lbs.length, none⟩ = some (.int .u8 167) := by
        obtain ⟨b, o, e, hc⟩ := hfr8x (by simp)
        cases e
        have := hc lbs.length 167 (by simp)
        rwa [Nat.zero_add] at this
      have q2 : W8.cell? ⟨gA, lbs.length + 1, none⟩ = some (.int .u8 182) := by
        obtain ⟨b, o, e, hc⟩ := hfr8x (by simp)
        cases e
        have := hc (lbs.length + 1) 182 (by simp)
        rwa [Nat.zero_add] at this
      have hcv1 := conv_run W8 (some ⟨gA, 0, none⟩) lbs.length cA lbs rfl hfc8
      have hcv2 := conv_run W8 lao lbs.length lcap lbs rfl hfl8
      have hcv3 : ∀ q, (convert 29 9 (.slice (some ⟨gA, 0, none⟩) lbs.length cA)).run Try.prog (W8.drewN q) = .ok (.string ⟨lbs.toArray⟩) (W8.drewN q) := fun q => conv_run (W8.drewN q) (some ⟨gA, 0, none⟩) lbs.length cA lbs rfl hfc8
      have hcv4 : ∀ q, (convert 29 9 (.slice lao lbs.length lcap)).run Try.prog (W8.drewN q) = .ok (.string ⟨lbs.toArray⟩) (W8.drewN q) := fun q => conv_run (W8.drewN q) lao lbs.length lcap lbs rfl hfl8
      have c2 : W8.cell? ⟨w.heap.size, 2, none⟩ = some (.slice lao lbs.length lcap) := hB8x.cell 2
      clear hl8 hfr8x hfc8 hfl8
      go_wp2_with fail
      go_quiet (fail)
      have hPq : PInv L pb hbn hbr room { s6 with lent := lbs ++ [167, 182] } (W8.drewN nq) := by
        have := hP8.drewN nq
        rw [← hs6l]
        exact this
      have hSq : PStp pb hbn hbr s { s6 with lent := lbs ++ [167, 182] } w (W8.drewN nq) := by
        rw [← hs6l]
        exact ⟨hS8.os, hS8.tape, hS8.output, hS8.size, hS8.block, hS8.has⟩
      clear hP8 hS8 q1 q2 hcv1 hcv2 hcv3 hcv4 c2 hB8x
      generalize (W8.drewN nq) = W9 at *
      go_wp2
      go_loopw [10] (fun x wr => ∃ (k : Nat) (bs' : List UInt8), k ≤ lbs.length + 2 ∧ x = .int .i64 k ∧ bs'.length = lbs.length + 2 ∧ PInv L pb hbn hbr room { s6 with lent := bs' } wr ∧ PStp pb hbn hbr s { s6 with lent := bs' } w wr) (fun x _ => lbs.length + 2 - (intOf x).toNat)
      case atStart => exact ⟨0, lbs ++ [167, 182], Nat.zero_le _, rfl, by simp, hPq, hSq⟩
      case round =>
        obtain ⟨k, bs', hk, rfl, hbl, hPk, hSk⟩ := hrel
        clear hPq hSq
        by_cases hlt : k < lbs.length + 2
        · have hl9 : wr.ownsRow L 5 1 (.slice (some ⟨gA, 0, none⟩) (lbs.length + 2) cA) (lbs.length + 2) (bs'.map B) := by
            have := hPk.lentO
            rw [show ({ s6 with lent := bs' } : PS).vl = s6.vl from rfl, hs6v, show ({ s6 with lent := bs' } : PS).lent = bs' from rfl, hbl] at this
            exact this
          obtain ⟨cur, hrow⟩ := ownsRow_type hl9 (g := gA) rfl
          have hcell : ∃ x, wr.cell? ⟨gA, k, none⟩ = some x := by
            obtain ⟨u, hu⟩ : ∃ u, bs'[k]? = some u := ⟨bs'[k]'(by omega), List.getElem?_eq_getElem _⟩
            have := hl9.cells (g := gA) rfl k (B u) (by rw [List.getElem?_map, hu]; rfl)
            rw [addr_add, Nat.zero_add] at this
            exact ⟨_, this⟩
          obtain ⟨x0, hx0⟩ := hcell
          have hz9 : wr.frozen? ⟨gA, k, none⟩ = false := by simp [World.frozen?, hrow]
          obtain ⟨u, hu⟩ : ∃ u : UInt8, ((u.toNat : Nat) : Int) = (50 + (k : Int)) % 256 := ⟨UInt8.ofNat ((50 + k) % 256), by rw [UInt8.toNat_ofNat_of_lt' (by show (50 + k) % 256 < 256; omega)]; omega⟩
          obtain ⟨hP', hS'⟩ := hPk.write (g := gA) (cap := cA) (k := k) (by show s6.vl = .slice _ bs'.length _; rw [hs6v, hbl]) u (by show k < bs'.length; omega)
          rw [B, hu] at hP' hS'
          have hS2 := hSk.trans hS'
          have HP : Hid _ := hP'
          have HS : Hid _ := hS2
          clear hP' hS' hS2 hPk hSk hl9 hrow
          go_wp2
          go_roundw
          case rel => exact ⟨k + 1, bs'.set k u, by omega, by go_num, by simp [hbl], HP.out, HS.out⟩
          case measure => simp [intOf]; omega
        · have HP : Hid _ := hPk
          have HS : Hid _ := hSk
          clear hPk hSk
          go_wp2_with (first | (go_at_call 9; refine (num_any _ _).mono ?_; rintro e9 w9 ⟨rfl, rfl⟩) | fail)
          go_ret
          exact ⟨rfl, _, HP.out, ⟨hA6.keys, hA6.len, hA6.small⟩, HS.out, ⟨hs6s.ks, hs6s.ms, hs6s.ls, hs6s.ws, hs6s.fl, hs6s.mark, hs6s.turns, hs6s.size⟩⟩
    · rename_i K hK
      try rw [show ∀ a : Act, a.put none undef = a from fun _ => rfl]
      refine wp_region_mix (fun wr => wr.heap[pb]? = W4.heap[pb]? ∧ wr.heap[w.heap.size]? = W4.heap[w.heap.size]?) (fun i => i == 12 || i == 14) 14 (by kernel_rfl) rfl (by kernel_rfl) (by kernel_rfl) (by kernel_rfl) ?_
      have hP5 : PInv L pb hbn hbr room s4 ({ W4 with drawn := W4.drawn + 1 } : World) := hP4.keep fun _ _ => rfl
      have hS5 : PStp pb hbn hbr s s4 w ({ W4 with drawn := W4.drawn + 1 } : World) := ⟨hS4.os, hS4.tape, hS4.output, hS4.size, hS4.block, hS4.has⟩
      have hB5 : Blk ({ W4 with drawn := W4.drawn + 1 } : World) w.heap.size (letC f t (.slice lao lbs.length lcap)) 31 := hB4
      have hC : ({ W4 with drawn := W4.drawn + 1 } : World).heap[pb]? = W4.heap[pb]? ∧ ({ W4 with drawn := W4.drawn + 1 } : World).heap[w.heap.size]? = W4.heap[w.heap.size]? := ⟨rfl, rfl⟩
      generalize ({ W4 with drawn := W4.drawn + 1 } : World) = W5 at *
      have hz5 := hS5.size
      have hfc : From W5 (some ⟨gA, 0, none⟩) lbs := by
        have hl := hP5.lentO
        rw [hs4l, hs4v, List.length_append] at hl
        obtain ⟨xo, xc, e, _, _, hfr, _⟩ := own_from hl
        cases e
        intro h0
        obtain ⟨b, o, e, hc⟩ := hfr (by simp)
        exact ⟨b, o, e, fun j u hu => hc j u (by rw [List.getElem?_append_left (List.getElem?_eq_some_iff.1 hu).1]; exact hu)⟩
      have hgc : gA < W5.heap.size := by
        have hl := hP5.lentO
        rw [hs4v] at hl
        exact (hl.lt gA rfl).2
      have hsend := send_full W5 hP5.bag hroom (by rw [hs4b]; omega) (.slice (some ⟨gA, 0, none⟩) lbs.length cA) f t
      refine withFrL (N := 103) rfl ?_
      intro a0 f0 F0 hff
      have hs0 : f0 0 = Value.pointer (some ⟨pb, 0, none⟩) := hff 0
      have hs3 : f0 3 = Value.pointer (some ⟨w.heap.size, 0, none⟩) := hff 3
      have hs5 : f0 5 = Value.int .i64 (lbs.length : Nat) := hff 5
      have hs6 : f0 6 = Value.slice (some ⟨gA, 0, none⟩) (lbs.length + 2) cA := hff 6
      clear hff
      refine ly F0 rfl hC rfl (by omega) (wanted_none rfl) (v := Value.pointer (some ⟨pb, 0, none⟩)) (fun wr hwr => by simp only [execOp, (F0.eval 0 (by omega)).trans (show _ = Value.pointer (some ⟨pb, 0, none⟩) from by simp [upd, hs0, hs3, hs5, hs6])]; first | rfl | simp [go_sem]) fun a1 F1 => ?_
      refine ly F1 rfl hC rfl (by omega) (wanted_none rfl) (v := Value.pointer (some ⟨pb, 0, none⟩)) (fun wr hwr => by simp only [execOp, (F1.eval 42 (by omega)).trans (show _ = Value.pointer (some ⟨pb, 0, none⟩) from by simp [upd, hs0, hs3, hs5, hs6])]; first | rfl | simp [go_sem]) fun a2 F2 => ?_
      refine ly F2 rfl hC rfl (by omega) (wanted_none rfl) (v := Value.pointer (some ⟨pb, 0, none⟩)) (fun wr hwr => by simp only [execOp, (F2.eval 43 (by omega)).trans (show _ = Value.pointer (some ⟨pb, 0, none⟩) from by simp [upd, hs0, hs3, hs5, hs6])]; first | rfl | simp [go_sem]) fun a3 F3 => ?_
      refine ly F3 rfl hC rfl (by omega) (wanted_none rfl) (v := Value.pointer (some ⟨hbn, 0, none⟩)) (fun wr hwr => by simp only [execOp, (F3.eval 44 (by omega)).trans (show _ = Value.pointer (some ⟨pb, 0, none⟩) from by simp [upd, hs0, hs3, hs5, hs6])]; simp [go_sem, (show wr.cell? ⟨pb, 0, none⟩ = some (Value.pointer (some ⟨hbn, 0, none⟩)) from (World.cell?_of_block (w := W4) hwr.1).trans (hP4.cell 0))]) fun a4 F4 => ?_
      refine ly F4 rfl hC rfl (by omega) (wanted_none rfl) (v := Value.pointer (some ⟨w.heap.size, 0, none⟩)) (fun wr hwr => by simp only [execOp, (F4.eval 3 (by omega)).trans (show _ = Value.pointer (some ⟨w.heap.size, 0, none⟩) from by simp [upd, hs0, hs3, hs5, hs6])]; first | rfl | simp [go_sem]) fun a5 F5 => ?_
      refine ly F5 rfl hC rfl (by omega) (wanted_none rfl) (v := Value.int .i64 f) (fun wr hwr => by simp only [execOp, (F5.eval 46 (by omega)).trans (show _ = Value.pointer (some ⟨w.heap.size, 0, none⟩) from by simp [upd, hs0, hs3, hs5, hs6])]; simp [go_sem, (show wr.cell? ⟨w.heap.size, 0, none⟩ = some (Value.int .i64 f) from (World.cell?_of_block (w := W4) hwr.2).trans (hB4.cell 0))]) fun a6 F6 => ?_
      refine ly F6 rfl hC rfl (by omega) (wanted_none rfl) (v := Value.pointer (some ⟨w.heap.size, 1, none⟩)) (fun wr hwr => by simp only [execOp, (F6.eval 3 (by omega)).trans (show _ = Value.pointer (some ⟨w.heap.size, 0, none⟩) from by simp [upd, hs0, hs3, hs5, hs6])]; first | rfl | simp [go_sem]) fun a7 F7 => ?_
      refine ly F7 rfl hC rfl (by omega) (wanted_none rfl) (v := Value.int .i64 t) (fun wr hwr => by simp only [execOp, (F7.eval 48 (by omega)).trans (show _ = Value.pointer (some ⟨w.heap.size, 1, none⟩) from by simp [upd, hs0, hs3, hs5, hs6])]; simp [go_sem, (show wr.cell? ⟨w.heap.size, 1, none⟩ = some (Value.int .i64 t) from (World.cell?_of_block (w := W4) hwr.2).trans (hB4.cell 1))]) fun a8 F8 => ?_
      refine ly F8 rfl hC rfl (by omega) (wanted_none rfl) (v := Value.slice (some ⟨gA, 0, none⟩) (lbs.length + 2) cA) (fun wr hwr => by simp only [execOp, (F8.eval 6 (by omega)).trans (show _ = Value.slice (some ⟨gA, 0, none⟩) (lbs.length + 2) cA from by simp [upd, hs0, hs3, hs5, hs6])]; first | rfl | simp [go_sem]) fun a9 F9 => ?_
      refine ly F9 rfl hC rfl (by omega) (wanted_none rfl) (v := Value.int .i64 (lbs.length : Nat)) (fun wr hwr => by simp only [execOp, (F9.eval 5 (by omega)).trans (show _ = Value.int .i64 (lbs.length : Nat) from by simp [upd, hs0, hs3, hs5, hs6])]; first | rfl | simp [go_sem]) fun a10 F10 => ?_
      refine ly F10 rfl hC rfl (by omega) (wanted_none rfl) (v := Value.slice (some ⟨gA, 0, none⟩) lbs.length cA) (fun wr hwr => by simp only [execOp, Option.map_some, Option.map_none, (F10.eval 50 (by omega)).trans (show _ = Value.slice (some ⟨gA, 0, none⟩) (lbs.length + 2) cA from by simp [upd, hs0, hs3, hs5, hs6]), (F10.eval 51 (by omega)).trans (show _ = Value.int .i64 (lbs.length : Nat) from by simp [upd, hs0, hs3, hs5, hs6]), Sem.run_bind, slice_to5 gA (lbs.length + 2) cA lbs.length (by omega) wr, Result.andThen_ok, Sem.run_pure]) fun a11 F11 => ?_
      refine ly F11 rfl hC rfl (by omega) (wanted_none rfl) (v := Value.agg (letC f t (Value.slice (some ⟨gA, 0, none⟩) lbs.length cA))) (fun wr hwr => by simp only [execOp, List.map_toArray, List.map_cons, List.map_nil, (F11.eval 47 (by omega)).trans (show _ = Value.int .i64 f from by simp [upd, hs0, hs3, hs5, hs6]), (F11.eval 49 (by omega)).trans (show _ = Value.int .i64 t from by simp [upd, hs0, hs3, hs5, hs6]), (F11.eval 52 (by omega)).trans (show _ = Value.slice (some ⟨gA, 0, none⟩) lbs.length cA from by simp [upd, hs0, hs3, hs5, hs6])]; simp [go_sem, letC]) fun a12 F12 => ?_
      refine lc F12 rfl hC rfl (by omega) (wanted_none rfl) (g := 10) (args := #[.pointer (some ⟨hbn, 0, none⟩), .agg (letC f t (.slice (some ⟨gA, 0, none⟩) lbs.length cA))]) (by simp only [execOp, resolve, invoke, List.map_toArray, List.map_cons, List.map_nil, (F12.eval 45 (by omega)).trans (show _ = Value.pointer (some ⟨hbn, 0, none⟩) from by simp [upd, hs0, hs3, hs5, hs6]), (F12.eval 53 (by omega)).trans (show _ = Value.agg (letC f t (Value.slice (some ⟨gA, 0, none⟩) lbs.length cA)) from by simp [upd, hs0, hs3, hs5, hs6])]; simp [go_sem, Act.eval]) hsend ?_
      rintro e5 W6 ⟨rfl, hb6⟩
      refine ⟨_, rfl, fun a13 F13 => ?_⟩
      have hC6 : W6.heap[pb]? = W4.heap[pb]? ∧ W6.heap[w.heap.size]? = W4.heap[w.heap.size]? := ⟨(hb6.block pb hP5.pblt).trans hC.1, (hb6.block w.heap.size hB5.lt).trans hC.2⟩
      refine ly F13 rfl hC6 rfl (by omega) (wanted_none rfl) (v := Value.int .i64 41) (fun wr hwr => by simp only [execOp, (F13.eval 54 (by omega)).trans (show _ = Value.int .i64 41 from by simp [upd, hs0, hs3, hs5, hs6])]; first | rfl | simp [go_sem]) fun a14 F14 => ?_
      refine ⟨fun _ => hC6, ?_⟩
      have hP6 := hP5.below hb6
      have hS6 := hS5.trans (PStp.ofBelow (s := s4) hb6)
      have hB6x : Blk W6 w.heap.size (letC f t (.slice lao lbs.length lcap)) 31 := hC6.2.trans hB4
      refine doneS5 F14 (p0 := 0) (p1 := 3) (p2 := 5) (p3 := 6) (p4 := 7) (show _ = Value.pointer (some ⟨pb, 0, none⟩) from by simp [upd, hs0]) (show _ = Value.pointer (some ⟨w.heap.size, 0, none⟩) from by simp [upd, hs3]) (show _ = Value.int .i64 (lbs.length : Nat) from by simp [upd, hs5]) (show _ = Value.slice (some ⟨gA, 0, none⟩) (lbs.length + 2) cA from by simp [upd, hs6]) (show _ = Value.int .i64 41 from by simp [upd]) fun f' F' k0 k3 k5 k6 k7 => ?_
      clear F0 F1 F2 F3 F4 F5 F6 F7 F8 F9 F10 F11 F12 F13 F14 hs0 hs3 hs5 hs6 hsend hC hC6 hP5 hS5 hB5
      show K _ _
      apply hK
      rw [F'.lit, show ((List.range 103).map f').toArray = #[f' 0, f' 1, f' 2, f' 3, f' 4, f' 5, f' 6, f' 7, f' 8, f' 9, f' 10, f' 11, f' 12, f' 13, f' 14, f' 15, f' 16, f' 17, f' 18, f' 19, f' 20, f' 21, f' 22, f' 23, f' 24, f' 25, f' 26, f' 27, f' 28, f' 29, f' 30, f' 31, f' 32, f' 33, f' 34, f' 35, f' 36, f' 37, f' 38, f' 39, f' 40, f' 41, f' 42, f' 43, f' 44, f' 45, f' 46, f' 47, f' 48, f' 49, f' 50, f' 51, f' 52, f' 53, f' 54, f' 55, f' 56, f' 57, f' 58, f' 59, f' 60, f' 61, f' 62, f' 63, f' 64, f' 65, f' 66, f' 67, f' 68, f' 69, f' 70, f' 71, f' 72, f' 73, f' 74, f' 75, f' 76, f' 77, f' 78, f' 79, f' 80, f' 81, f' 82, f' 83, f' 84, f' 85, f' 86, f' 87, f' 88, f' 89, f' 90, f' 91, f' 92, f' 93, f' 94, f' 95, f' 96, f' 97, f' 98, f' 99, f' 100, f' 101, f' 102] from rfl, k0, k3, k5, k6, k7]
      clear F' k0 k3 k5 k6 k7
      go_wp2_with fail
      obtain ⟨s5, hs5⟩ : ∃ s5, s5 = s4 := ⟨_, rfl⟩
      rw [← hs5] at hP6 hS6
      have hs5l : s5.lent = lbs ++ [167, 182] := by rw [hs5, ← hs4l]
      have hs5v : s5.vl = .slice (some ⟨gA, 0, none⟩) (lbs.length + 2) cA := by rw [hs5, ← hs4v]
      have hs5r : s5.lr = s.lr := by rw [hs5, ← hs4]
      have hs5q : s5.vr = s.vr := by rw [hs5, ← hs4]
      have hs5s : PSame s s5 := by rw [hs5, ← hs4]; exact ⟨rfl, rfl, rfl, rfl, rfl, rfl, rfl, rfl⟩
      have hs5b : s5.lv = s.lv := by rw [hs5, ← hs4]
      have hrl : s.lr.length = s.lv.length := by have := congrArg List.length ha.keys; simpa using this.symm
      clear hs5 hP4 hS4 hb6
      rename_i K hK
      try rw [show ∀ a : Act, a.put none undef = a from fun _ => rfl]
      refine wp_region_mix (fun wr => wr.heap[pb]? = W6.heap[pb]? ∧ wr.heap[w.heap.size]? = W6.heap[w.heap.size]?) (fun i => i == 5 || i == 7) 7 (by kernel_rfl) rfl (by kernel_rfl) (by kernel_rfl) (by kernel_rfl) ?_
      have hP7 : PInv L pb hbn hbr room s5 ({ W6 with drawn := W6.drawn + 1 } : World) := hP6.keep fun _ _ => rfl
      have hS7 : PStp pb hbn hbr s s5 w ({ W6 with drawn := W6.drawn + 1 } : World) := ⟨hS6.os, hS6.tape, hS6.output, hS6.size, hS6.block, hS6.has⟩
      have hB7 : Blk ({ W6 with drawn := W6.drawn + 1 } : World) w.heap.size (letC f t (.slice lao lbs.length lcap)) 31 := hB6x
      have hC : ({ W6 with drawn := W6.drawn + 1 } : World).heap[pb]? = W6.heap[pb]? ∧ ({ W6 with drawn := W6.drawn + 1 } : World).heap[w.heap.size]? = W6.heap[w.heap.size]? := ⟨rfl, rfl⟩
      generalize ({ W6 with drawn := W6.drawn + 1 } : World) = W7 at *
      have hz7 := hS7.size
      have hfW : From W7 lao lbs := by
        intro h0
        obtain ⟨b, o, e, hc⟩ := hf h0
        have hbL := hlow h0 b o e
        exact ⟨b, o, e, fun j u hu => (World.cell?_of_block (w := w) (hS7.block b hbL.1 hbL.2)).trans (hc j u hu)⟩
      have hrs := rsend_full W7 hP7.ref hroom (by rw [hs5r]; omega) (.slice lao lbs.length lcap) f t
      refine withFrL (N := 103) rfl ?_
      intro a0 f0 F0 hff
      have hs0 : f0 0 = Value.pointer (some ⟨pb, 0, none⟩) := hff 0
      have hs3 : f0 3 = Value.pointer (some ⟨w.heap.size, 0, none⟩) := hff 3
      have hs5x : f0 5 = Value.int .i64 (lbs.length : Nat) := hff 5
      have hs6 : f0 6 = Value.slice (some ⟨gA, 0, none⟩) (lbs.length + 2) cA := hff 6
      have hs7 : f0 7 = Value.int .i64 41 := hff 7
      clear hff
      refine ly F0 rfl hC rfl (by omega) (wanted_none rfl) (v := Value.pointer (some ⟨pb, 0, none⟩)) (fun wr hwr => by simp only [execOp, (F0.eval 0 (by omega)).trans (show _ = Value.pointer (some ⟨pb, 0, none⟩) from by simp [upd, hs0, hs3, hs5x, hs6, hs7])]; first | rfl | simp [go_sem]) fun a1 F1 => ?_
      refine ly F1 rfl hC rfl (by omega) (wanted_none rfl) (v := Value.pointer (some ⟨pb, 0, none⟩)) (fun wr hwr => by simp only [execOp, (F1.eval 55 (by omega)).trans (show _ = Value.pointer (some ⟨pb, 0, none⟩) from by simp [upd, hs0, hs3, hs5x, hs6, hs7])]; first | rfl | simp [go_sem]) fun a2 F2 => ?_
      refine ly F2 rfl hC rfl (by omega) (wanted_none rfl) (v := Value.pointer (some ⟨pb, 1, none⟩)) (fun wr hwr => by simp only [execOp, (F2.eval 56 (by omega)).trans (show _ = Value.pointer (some ⟨pb, 0, none⟩) from by simp [upd, hs0, hs3, hs5x, hs6, hs7])]; first | rfl | simp [go_sem]) fun a3 F3 => ?_
      refine ly F3 rfl hC rfl (by omega) (wanted_none rfl) (v := Value.pointer (some ⟨hbr, 0, none⟩)) (fun wr hwr => by simp only [execOp, (F3.eval 57 (by omega)).trans (show _ = Value.pointer (some ⟨pb, 1, none⟩) from by simp [upd, hs0, hs3, hs5x, hs6, hs7])]; simp [go_sem, (show wr.cell? ⟨pb, 1, none⟩ = some (Value.pointer (some ⟨hbr, 0, none⟩)) from (World.cell?_of_block (w := W6) hwr.1).trans (hP6.cell 1))]) fun a4 F4 => ?_
      refine ly F4 rfl hC rfl (by omega) (wanted_none rfl) (v := Value.agg (letC f t (.slice lao lbs.length lcap))) (fun wr hwr => by simp only [execOp, (F4.eval 3 (by omega)).trans (show _ = Value.pointer (some ⟨w.heap.size, 0, none⟩) from by simp [upd, hs0, hs3, hs5x, hs6, hs7]), Instr.loadAt, Instr.sureAddr, Sem.run_bind, Sem.run_pure, Result.andThen_ok, run_loadVar_row (P := Try.prog) wr w.heap.size 31 31 (letC f t (.slice lao lbs.length lcap)) (0, 0) _ (hwr.2.trans hB6x) Try.underlying31 rfl (by kernel_rfl)]) fun a5 F5 => ?_
      refine lc F5 rfl hC rfl (by omega) (wanted_none rfl) (g := 43) (args := #[.pointer (some ⟨hbr, 0, none⟩), .agg (letC f t (.slice lao lbs.length lcap))]) (by simp only [execOp, resolve, invoke, List.map_toArray, List.map_cons, List.map_nil, (F5.eval 58 (by omega)).trans (show _ = Value.pointer (some ⟨hbr, 0, none⟩) from by simp [upd, hs0, hs3, hs5x, hs6, hs7]), (F5.eval 59 (by omega)).trans (show _ = Value.agg (letC f t (.slice lao lbs.length lcap)) from by simp [upd, hs0, hs3, hs5x, hs6, hs7])]; simp [go_sem, Act.eval]) hrs ?_
      rintro e8 W8 ⟨rfl, hb8⟩
      refine ⟨_, rfl, fun a6 F6 => ?_⟩
      have hC8 : W8.heap[pb]? = W6.heap[pb]? ∧ W8.heap[w.heap.size]? = W6.heap[w.heap.size]? := ⟨(hb8.block pb hP7.pblt).trans hC.1, (hb8.block w.heap.size hB7.lt).trans hC.2⟩
      refine ly F6 rfl hC8 rfl (by omega) (wanted_none rfl) (v := Value.int .i64 41) (fun wr hwr => by simp only [execOp, (F6.eval 60 (by omega)).trans (show _ = Value.int .i64 41 from by simp [upd, hs0, hs3, hs5x, hs6, hs7])]; first | rfl | simp [go_sem]) fun a7 F7 => ?_
      refine ⟨fun _ => hC8, ?_⟩
      have hP8 := hP7.below hb8
      have hS8 := hS7.trans (PStp.ofBelow (s := s5) hb8)
      have hB8x : Blk W8 w.heap.size (letC f t (.slice lao lbs.length lcap)) 31 := hC8.2.trans hB6x
      refine doneS6 F7 (p0 := 0) (p1 := 3) (p2 := 5) (p3 := 6) (p4 := 7) (p5 := 8) (show _ = Value.pointer (some ⟨pb, 0, none⟩) from by simp [upd, hs0]) (show _ = Value.pointer (some ⟨w.heap.size, 0, none⟩) from by simp [upd, hs3]) (show _ = Value.int .i64 (lbs.length : Nat) from by simp [upd, hs5x]) (show _ = Value.slice (some ⟨gA, 0, none⟩) (lbs.length + 2) cA from by simp [upd, hs6]) (show _ = Value.int .i64 41 from by simp [upd, hs7]) (show _ = Value.int .i64 41 from by simp [upd]) fun f' F' k0 k3 k5 k6 k7 k8 => ?_
      clear F0 F1 F2 F3 F4 F5 F6 F7 hs0 hs3 hs5x hs6 hs7 hrs hC hC8 hP7 hS7 hB7
      obtain ⟨s6, hs6⟩ : ∃ s6, s6 = s5 := ⟨_, rfl⟩
      rw [← hs6] at hP8 hS8
      have hs6l : s6.lent = lbs ++ [167, 182] := by rw [hs6, ← hs5l]
      have hs6v : s6.vl = .slice (some ⟨gA, 0, none⟩) (lbs.length + 2) cA := by rw [hs6, ← hs5v]
      have hs6s : PSame s s6 := by rw [hs6]; exact ⟨hs5s.ks, hs5s.ms, hs5s.ls, hs5s.ws, hs5s.fl, hs5s.mark, hs5s.turns, hs5s.size⟩
      have hA6 : PAg room s6 := by
        rw [hs6]
        refine ⟨?_, ?_, fun x hx => ?_⟩
        · rw [hs5b, hs5r]; exact ha.keys
        · rw [hs5b]; exact ha.len
        · rw [hs5b] at hx; exact ha.small x hx
      show K _ _
      apply hK
      rw [F'.lit, show ((List.range 103).map f').toArray = #[f' 0, f' 1, f' 2, f' 3, f' 4, f' 5, f' 6, f' 7, f' 8, f' 9, f' 10, f' 11, f' 12, f' 13, f' 14, f' 15, f' 16, f' 17, f' 18, f' 19, f' 20, f' 21, f' 22, f' 23, f' 24, f' 25, f' 26, f' 27, f' 28, f' 29, f' 30, f' 31, f' 32, f' 33, f' 34, f' 35, f' 36, f' 37, f' 38, f' 39, f' 40, f' 41, f' 42, f' 43, f' 44, f' 45, f' 46, f' 47, f' 48, f' 49, f' 50, f' 51, f' 52, f' 53, f' 54, f' 55, f' 56, f' 57, f' 58, f' 59, f' 60, f' 61, f' 62, f' 63, f' 64, f' 65, f' 66, f' 67, f' 68, f' 69, f' 70, f' 71, f' 72, f' 73, f' 74, f' 75, f' 76, f' 77, f' 78, f' 79, f' 80, f' 81, f' 82, f' 83, f' 84, f' 85, f' 86, f' 87, f' 88, f' 89, f' 90, f' 91, f' 92, f' 93, f' 94, f' 95, f' 96, f' 97, f' 98, f' 99, f' 100, f' 101, f' 102] from rfl, k0, k3, k5, k6, k7, k8]
      clear F' k0 k3 k5 k6 k7 k8 hs6 hP6 hS6 hB6x hs5l hs5v hs5r hs5q hs5s hs5b
      have hl8 := hP8.lentO
      rw [hs6l, hs6v, List.length_append] at hl8
      obtain ⟨xo, xc, ex, _, _, hfr8x, _⟩ := own_from hl8
      cases ex
      have hfc8 : From W8 (some ⟨gA, 0, none⟩) lbs := fun h0 => by
        obtain ⟨b, o, e, hc⟩ := hfr8x (by simp)
        exact ⟨b, o, e, fun j u hu => hc j u (by rw [List.getElem?_append_left (List.getElem?_eq_some_iff.1 hu).1]; exact hu)⟩
      have hfl8 : From W8 lao lbs := by
        intro h0
        obtain ⟨b, o, e, hc⟩ := hf h0
        have hbL := hlow h0 b o e
        exact ⟨b, o, e, fun j u hu => (World.cell?_of_block (w := w) (hS8.block b hbL.1 hbL.2)).trans (hc j u hu)⟩
      have q1 : W8.cell? ⟨gA, lbs.length, none⟩ = some (.int .u8 167) := by
        obtain ⟨b, o, e, hc⟩ := hfr8x (by simp)
        cases e
        have := hc lbs.length 167 (by simp)
        rwa [Nat.zero_add] at this
      have q2 : W8.cell? ⟨gA, lbs.length + 1, none⟩ = some (.int .u8 182) := by
        obtain ⟨b, o, e, hc⟩ := hfr8x (by simp)
        cases e
        have := hc (lbs.length + 1) 182 (by simp)
        rwa [Nat.zero_add] at this
      have hcv1 := conv_run W8 (some ⟨gA, 0, none⟩) lbs.length cA lbs rfl hfc8
      have hcv2 := conv_run W8 lao lbs.length lcap lbs rfl hfl8
      have hcv3 : ∀ q, (convert 29 9 (.slice (some ⟨gA, 0, none⟩) lbs.length cA)).run Try.prog (W8.drewN q) = .ok (.string ⟨lbs.toArray⟩) (W8.drewN q) := fun q => conv_run (W8.drewN q) (some ⟨gA, 0, none⟩) lbs.length cA lbs rfl hfc8
      have hcv4 : ∀ q, (convert 29 9 (.slice lao lbs.length lcap)).run Try.prog (W8.drewN q) = .ok (.string ⟨lbs.toArray⟩) (W8.drewN q) := fun q => conv_run (W8.drewN q) lao lbs.length lcap lbs rfl hfl8
      have c2 : W8.cell? ⟨w.heap.size, 2, none⟩ = some (.slice lao lbs.length lcap) := hB8x.cell 2
      clear hl8 hfr8x hfc8 hfl8
      go_wp2_with fail
      go_quiet (fail)
      have hPq : PInv L pb hbn hbr room { s6 with lent := lbs ++ [167, 182] } (W8.drewN nq) := by
        have := hP8.drewN nq
        rw [← hs6l]
        exact this
      have hSq : PStp pb hbn hbr s { s6 with lent := lbs ++ [167, 182] } w (W8.drewN nq) := by
        rw [← hs6l]
        exact ⟨hS8.os, hS8.tape, hS8.output, hS8.size, hS8.block, hS8.has⟩
      clear hP8 hS8 q1 q2 hcv1 hcv2 hcv3 hcv4 c2 hB8x
      generalize (W8.drewN nq) = W9 at *
      go_wp2
      go_loopw [10] (fun x wr => ∃ (k : Nat) (bs' : List UInt8), k ≤ lbs.length + 2 ∧ x = .int .i64 k ∧ bs'.length = lbs.length + 2 ∧ PInv L pb hbn hbr room { s6 with lent := bs' } wr ∧ PStp pb hbn hbr s { s6 with lent := bs' } w wr) (fun x _ => lbs.length + 2 - (intOf x).toNat)
      case atStart => exact ⟨0, lbs ++ [167, 182], Nat.zero_le _, rfl, by simp, hPq, hSq⟩
      case round =>
        obtain ⟨k, bs', hk, rfl, hbl, hPk, hSk⟩ := hrel
        clear hPq hSq
        by_cases hlt : k < lbs.length + 2
        · have hl9 : wr.ownsRow L 5 1 (.slice (some ⟨gA, 0, none⟩) (lbs.length + 2) cA) (lbs.length + 2) (bs'.map B) := by
            have := hPk.lentO
            rw [show ({ s6 with lent := bs' } : PS).vl = s6.vl from rfl, hs6v, show ({ s6 with lent := bs' } : PS).lent = bs' from rfl, hbl] at this
            exact this
          obtain ⟨cur, hrow⟩ := ownsRow_type hl9 (g := gA) rfl
          have hcell : ∃ x, wr.cell? ⟨gA, k, none⟩ = some x := by
            obtain ⟨u, hu⟩ : ∃ u, bs'[k]? = some u := ⟨bs'[k]'(by omega), List.getElem?_eq_getElem _⟩
            have := hl9.cells (g := gA) rfl k (B u) (by rw [List.getElem?_map, hu]; rfl)
            rw [addr_add, Nat.zero_add] at this
            exact ⟨_, this⟩
          obtain ⟨x0, hx0⟩ := hcell
          have hz9 : wr.frozen? ⟨gA, k, none⟩ = false := by simp [World.frozen?, hrow]
          obtain ⟨u, hu⟩ : ∃ u : UInt8, ((u.toNat : Nat) : Int) = (50 + (k : Int)) % 256 := ⟨UInt8.ofNat ((50 + k) % 256), by rw [UInt8.toNat_ofNat_of_lt' (by show (50 + k) % 256 < 256; omega)]; omega⟩
          obtain ⟨hP', hS'⟩ := hPk.write (g := gA) (cap := cA) (k := k) (by show s6.vl = .slice _ bs'.length _; rw [hs6v, hbl]) u (by show k < bs'.length; omega)
          rw [B, hu] at hP' hS'
          have hS2 := hSk.trans hS'
          have HP : Hid _ := hP'
          have HS : Hid _ := hS2
          clear hP' hS' hS2 hPk hSk hl9 hrow
          go_wp2
          go_roundw
          case rel => exact ⟨k + 1, bs'.set k u, by omega, by go_num, by simp [hbl], HP.out, HS.out⟩
          case measure => simp [intOf]; omega
        · have HP : Hid _ := hPk
          have HS : Hid _ := hSk
          clear hPk hSk
          go_wp2_with (first | (go_at_call 9; refine (num_any _ _).mono ?_; rintro e9 w9 ⟨rfl, rfl⟩) | fail)
          go_ret
          exact ⟨rfl, _, HP.out, ⟨hA6.keys, hA6.len, hA6.small⟩, HS.out, ⟨hs6s.ks, hs6s.ms, hs6s.ls, hs6s.ws, hs6s.fl, hs6s.mark, hs6s.turns, hs6s.size⟩⟩
  · have hne : ¬ ((s.lent.length : Int) = (lbs.length : Int) + 2) := by omega
    have hP4 := h.putLent (w2 := w2) (u' := .slice (some ⟨gc2, 0, none⟩) (lbs.length + 2) cap2) (lent' := lbs ++ [167, 182]) (by rw [List.length_append]; exact ownsRow_mono hown2 (by omega)) (fun k hk _ => hbw2.block k hk) (fun j hj => Or.inr (by have := (hown2.lt j hj).1; omega))
    have hS4 := PStp.lent (pb := pb) (hbn := hbn) (hbr := hbr) (s := s) (w := w) (w2 := w2) (u' := .slice (some ⟨gc2, 0, none⟩) (lbs.length + 2) cap2) (lent' := lbs ++ [167, 182]) ⟨hbw2.os, hbw2.tape, hbw2.output, hbw2.size⟩ (fun k hk _ => hbw2.block k hk) (fun j hj => Or.inr (by have := (hown2.lt j hj).1; omega))
    have hB4 : Blk (w2.setCell ⟨pb, 5, none⟩ (.slice (some ⟨gc2, 0, none⟩) (lbs.length + 2) cap2)) w.heap.size (letC f t (.slice lao lbs.length lcap)) 31 := (Below.heap_setCell _ _ _ _ (by have := h.pblt; show _ ≠ pb; omega)).trans hB2
    have HP : Hid _ := hP4
    have HS : Hid _ := hS4
    have HB : Hid _ := hB4
    clear hP2 hown2 hvl hP4 hS4 hB4 hB2 hbw2 hb2 hb0 hB0
    go_wp2_with fail
    have hP4 := HP.out
    have hS4 := HS.out
    have hB4 : Blk (w2.setCell ⟨pb, 5, none⟩ (.slice (some ⟨gc2, 0, none⟩) (lbs.length + 2) cap2)) w.heap.size (letC f t (.slice lao lbs.length lcap)) 31 := HB.out
    clear HP HS HB c5 z5
    generalize (w2.setCell ⟨pb, 5, none⟩ (.slice (some ⟨gc2, 0, none⟩) (lbs.length + 2) cap2)) = W4 at *
    generalize hs4 : ({ s with vl := .slice (some ⟨gc2, 0, none⟩) (lbs.length + 2) cap2, lent := lbs ++ [167, 182] } : PS) = s4 at *
    have hs4l : s4.lent = lbs ++ [167, 182] := by rw [← hs4]
    have hs4v : s4.vl = .slice (some ⟨gc2, 0, none⟩) (lbs.length + 2) cap2 := by rw [← hs4]
    have hs4b : s4.lv.length = s.lv.length := by rw [← hs4]
    have hs4w : s4.v = s.v := by rw [← hs4]
    have hlen := ha.len
    by_cases hfull : s.lv.length < room
    · rename_i K hK
      try rw [show ∀ a : Act, a.put none undef = a from fun _ => rfl]
      refine wp_region_mix (fun wr => wr.heap[pb]? = W4.heap[pb]? ∧ wr.heap[w.heap.size]? = W4.heap[w.heap.size]?) (fun i => i == 12 || i == 14) 14 (by kernel_rfl) rfl (by kernel_rfl) (by kernel_rfl) (by kernel_rfl) ?_
      have hP5 : PInv L pb hbn hbr room s4 ({ W4 with drawn := W4.drawn + 1 } : World) := hP4.keep fun _ _ => rfl
      have hS5 : PStp pb hbn hbr s s4 w ({ W4 with drawn := W4.drawn + 1 } : World) := ⟨hS4.os, hS4.tape, hS4.output, hS4.size, hS4.block, hS4.has⟩
      have hB5 : Blk ({ W4 with drawn := W4.drawn + 1 } : World) w.heap.size (letC f t (.slice lao lbs.length lcap)) 31 := hB4
      have hC : ({ W4 with drawn := W4.drawn + 1 } : World).heap[pb]? = W4.heap[pb]? ∧ ({ W4 with drawn := W4.drawn + 1 } : World).heap[w.heap.size]? = W4.heap[w.heap.size]? := ⟨rfl, rfl⟩
      generalize ({ W4 with drawn := W4.drawn + 1 } : World) = W5 at *
      have hz5 := hS5.size
      have hfc : From W5 (some ⟨gc2, 0, none⟩) lbs := by
        have hl := hP5.lentO
        rw [hs4l, hs4v, List.length_append] at hl
        obtain ⟨xo, xc, e, _, _, hfr, _⟩ := own_from hl
        cases e
        intro h0
        obtain ⟨b, o, e, hc⟩ := hfr (by simp)
        exact ⟨b, o, e, fun j u hu => hc j u (by rw [List.getElem?_append_left (List.getElem?_eq_some_iff.1 hu).1]; exact hu)⟩
      have hgc : gc2 < W5.heap.size := by
        have hl := hP5.lentO
        rw [hs4v] at hl
        exact (hl.lt gc2 rfl).2
      have hsend := send_room W5 hP5.bag hroom (by rw [hs4b]; omega) (by omega) f t (some ⟨gc2, 0, none⟩) lbs.length cap2 lbs rfl (by intro h; cases h) (by omega) hfc (fun b o e => by cases e; exact hgc)
      refine withFrL (N := 103) rfl ?_
      intro a0 f0 F0 hff
      have hs0 : f0 0 = Value.pointer (some ⟨pb, 0, none⟩) := hff 0
      have hs3 : f0 3 = Value.pointer (some ⟨w.heap.size, 0, none⟩) := hff 3
      have hs5 : f0 5 = Value.int .i64 (lbs.length : Nat) := hff 5
      have hs6 : f0 6 = Value.slice (some ⟨gc2, 0, none⟩) (lbs.length + 2) cap2 := hff 6
      clear hff
      refine ly F0 rfl hC rfl (by omega) (wanted_none rfl) (v := Value.pointer (some ⟨pb, 0, none⟩)) (fun wr hwr => by simp only [execOp, (F0.eval 0 (by omega)).trans (show _ = Value.pointer (some ⟨pb, 0, none⟩) from by simp [upd, hs0, hs3, hs5, hs6])]; first | rfl | simp [go_sem]) fun a1 F1 => ?_
      refine ly F1 rfl hC rfl (by omega) (wanted_none rfl) (v := Value.pointer (some ⟨pb, 0, none⟩)) (fun wr hwr => by simp only [execOp, (F1.eval 42 (by omega)).trans (show _ = Value.pointer (some ⟨pb, 0, none⟩) from by simp [upd, hs0, hs3, hs5, hs6])]; first | rfl | simp [go_sem]) fun a2 F2 => ?_
      refine ly F2 rfl hC rfl (by omega) (wanted_none rfl) (v := Value.pointer (some ⟨pb, 0, none⟩)) (fun wr hwr => by simp only [execOp, (F2.eval 43 (by omega)).trans (show _ = Value.pointer (some ⟨pb, 0, none⟩) from by simp [upd, hs0, hs3, hs5, hs6])]; first | rfl | simp [go_sem]) fun a3 F3 => ?_
      refine ly F3 rfl hC rfl (by omega) (wanted_none rfl) (v := Value.pointer (some ⟨hbn, 0, none⟩)) (fun wr hwr => by simp only [execOp, (F3.eval 44 (by omega)).trans (show _ = Value.pointer (some ⟨pb, 0, none⟩) from by simp [upd, hs0, hs3, hs5, hs6])]; simp [go_sem, (show wr.cell? ⟨pb, 0, none⟩ = some (Value.pointer (some ⟨hbn, 0, none⟩)) from (World.cell?_of_block (w := W4) hwr.1).trans (hP4.cell 0))]) fun a4 F4 => ?_
      refine ly F4 rfl hC rfl (by omega) (wanted_none rfl) (v := Value.pointer (some ⟨w.heap.size, 0, none⟩)) (fun wr hwr => by simp only [execOp, (F4.eval 3 (by omega)).trans (show _ = Value.pointer (some ⟨w.heap.size, 0, none⟩) from by simp [upd, hs0, hs3, hs5, hs6])]; first | rfl | simp [go_sem]) fun a5 F5 => ?_
      refine ly F5 rfl hC rfl (by omega) (wanted_none rfl) (v := Value.int .i64 f) (fun wr hwr => by simp only [execOp, (F5.eval 46 (by omega)).trans (show _ = Value.pointer (some ⟨w.heap.size, 0, none⟩) from by simp [upd, hs0, hs3, hs5, hs6])]; simp [go_sem, (show wr.cell? ⟨w.heap.size, 0, none⟩ = some (Value.int .i64 f) from (World.cell?_of_block (w := W4) hwr.2).trans (hB4.cell 0))]) fun a6 F6 => ?_
      refine ly F6 rfl hC rfl (by omega) (wanted_none rfl) (v := Value.pointer (some ⟨w.heap.size, 1, none⟩)) (fun wr hwr => by simp only [execOp, (F6.eval 3 (by omega)).trans (show _ = Value.pointer (some ⟨w.heap.size, 0, none⟩) from by simp [upd, hs0, hs3, hs5, hs6])]; first | rfl | simp [go_sem]) fun a7 F7 => ?_
      refine ly F7 rfl hC rfl (by omega) (wanted_none rfl) (v := Value.int .i64 t) (fun wr hwr => by simp only [execOp, (F7.eval 48 (by omega)).trans (show _ = Value.pointer (some ⟨w.heap.size, 1, none⟩) from by simp [upd, hs0, hs3, hs5, hs6])]; simp [go_sem, (show wr.cell? ⟨w.heap.size, 1, none⟩ = some (Value.int .i64 t) from (World.cell?_of_block (w := W4) hwr.2).trans (hB4.cell 1))]) fun a8 F8 => ?_
      refine ly F8 rfl hC rfl (by omega) (wanted_none rfl) (v := Value.slice (some ⟨gc2, 0, none⟩) (lbs.length + 2) cap2) (fun wr hwr => by simp only [execOp, (F8.eval 6 (by omega)).trans (show _ = Value.slice (some ⟨gc2, 0, none⟩) (lbs.length + 2) cap2 from by simp [upd, hs0, hs3, hs5, hs6])]; first | rfl | simp [go_sem]) fun a9 F9 => ?_
      refine ly F9 rfl hC rfl (by omega) (wanted_none rfl) (v := Value.int .i64 (lbs.length : Nat)) (fun wr hwr => by simp only [execOp, (F9.eval 5 (by omega)).trans (show _ = Value.int .i64 (lbs.length : Nat) from by simp [upd, hs0, hs3, hs5, hs6])]; first | rfl | simp [go_sem]) fun a10 F10 => ?_
      refine ly F10 rfl hC rfl (by omega) (wanted_none rfl) (v := Value.slice (some ⟨gc2, 0, none⟩) lbs.length cap2) (fun wr hwr => by simp only [execOp, Option.map_some, Option.map_none, (F10.eval 50 (by omega)).trans (show _ = Value.slice (some ⟨gc2, 0, none⟩) (lbs.length + 2) cap2 from by simp [upd, hs0, hs3, hs5, hs6]), (F10.eval 51 (by omega)).trans (show _ = Value.int .i64 (lbs.length : Nat) from by simp [upd, hs0, hs3, hs5, hs6]), Sem.run_bind, slice_to5 gc2 (lbs.length + 2) cap2 lbs.length (by omega) wr, Result.andThen_ok, Sem.run_pure]) fun a11 F11 => ?_
      refine ly F11 rfl hC rfl (by omega) (wanted_none rfl) (v := Value.agg (letC f t (Value.slice (some ⟨gc2, 0, none⟩) lbs.length cap2))) (fun wr hwr => by simp only [execOp, List.map_toArray, List.map_cons, List.map_nil, (F11.eval 47 (by omega)).trans (show _ = Value.int .i64 f from by simp [upd, hs0, hs3, hs5, hs6]), (F11.eval 49 (by omega)).trans (show _ = Value.int .i64 t from by simp [upd, hs0, hs3, hs5, hs6]), (F11.eval 52 (by omega)).trans (show _ = Value.slice (some ⟨gc2, 0, none⟩) lbs.length cap2 from by simp [upd, hs0, hs3, hs5, hs6])]; simp [go_sem, letC]) fun a12 F12 => ?_
      refine lc F12 rfl hC rfl (by omega) (wanted_none rfl) (g := 10) (args := #[.pointer (some ⟨hbn, 0, none⟩), .agg (letC f t (.slice (some ⟨gc2, 0, none⟩) lbs.length cap2))]) (by simp only [execOp, resolve, invoke, List.map_toArray, List.map_cons, List.map_nil, (F12.eval 45 (by omega)).trans (show _ = Value.pointer (some ⟨hbn, 0, none⟩) from by simp [upd, hs0, hs3, hs5, hs6]), (F12.eval 53 (by omega)).trans (show _ = Value.agg (letC f t (Value.slice (some ⟨gc2, 0, none⟩) lbs.length cap2)) from by simp [upd, hs0, hs3, hs5, hs6])]; simp [go_sem, Act.eval]) hsend ?_
      rintro e5 W6 ⟨rfl, v6, d6, hB6, hst6, hfr6⟩
      refine ⟨_, rfl, fun a13 F13 => ?_⟩
      have hvb : s4.v.ownBlock ≠ some w.heap.size := fun e => by have := (h.bag.own.lt w.heap.size (by rw [← hs4w]; exact e)).2; omega
      have hC6 : W6.heap[pb]? = W4.heap[pb]? ∧ W6.heap[w.heap.size]? = W4.heap[w.heap.size]? := ⟨(hst6.block pb hP5.pblt hP5.pbne.1 (fun e => (hP5.notBox s4.v (by simp [PS.vals, PS.part1]) pb e).1 rfl)).trans hC.1, (hst6.block w.heap.size hB5.lt (by have := h.bag.lt; omega) hvb).trans hC.2⟩
      refine ly F13 rfl hC6 rfl (by omega) (wanted_none rfl) (v := Value.int .i64 0) (fun wr hwr => by simp only [execOp, (F13.eval 54 (by omega)).trans (show _ = Value.int .i64 0 from by simp [upd, hs0, hs3, hs5, hs6])]; first | rfl | simp [go_sem]) fun a14 F14 => ?_
      refine ⟨fun _ => hC6, ?_⟩
      have hP6 := hP5.send (x := ⟨f, t, d6, lbs⟩) hB6 hst6 hfr6
      have hS6 := hS5.trans (PStp.send (x := ⟨f, t, d6, lbs⟩) hst6 hfr6)
      have hB6x : Blk W6 w.heap.size (letC f t (.slice lao lbs.length lcap)) 31 := hC6.2.trans hB4
      refine doneS5 F14 (p0 := 0) (p1 := 3) (p2 := 5) (p3 := 6) (p4 := 7) (show _ = Value.pointer (some ⟨pb, 0, none⟩) from by simp [upd, hs0]) (show _ = Value.pointer (some ⟨w.heap.size, 0, none⟩) from by simp [upd, hs3]) (show _ = Value.int .i64 (lbs.length : Nat) from by simp [upd, hs5]) (show _ = Value.slice (some ⟨gc2, 0, none⟩) (lbs.length + 2) cap2 from by simp [upd, hs6]) (show _ = Value.int .i64 0 from by simp [upd]) fun f' F' k0 k3 k5 k6 k7 => ?_
      clear F0 F1 F2 F3 F4 F5 F6 F7 F8 F9 F10 F11 F12 F13 F14 hs0 hs3 hs5 hs6 hsend hC hC6 hP5 hS5 hB5
      show K _ _
      apply hK
      rw [F'.lit, show ((List.range 103).map f').toArray = #[f' 0, f' 1, f' 2, f' 3, f' 4, f' 5, f' 6, f' 7, f' 8, f' 9, f' 10, f' 11, f' 12, f' 13, f' 14, f' 15, f' 16, f' 17, f' 18, f' 19, f' 20, f' 21, f' 22, f' 23, f' 24, f' 25, f' 26, f' 27, f' 28, f' 29, f' 30, f' 31, f' 32, f' 33, f' 34, f' 35, f' 36, f' 37, f' 38, f' 39, f' 40, f' 41, f' 42, f' 43, f' 44, f' 45, f' 46, f' 47, f' 48, f' 49, f' 50, f' 51, f' 52, f' 53, f' 54, f' 55, f' 56, f' 57, f' 58, f' 59, f' 60, f' 61, f' 62, f' 63, f' 64, f' 65, f' 66, f' 67, f' 68, f' 69, f' 70, f' 71, f' 72, f' 73, f' 74, f' 75, f' 76, f' 77, f' 78, f' 79, f' 80, f' 81, f' 82, f' 83, f' 84, f' 85, f' 86, f' 87, f' 88, f' 89, f' 90, f' 91, f' 92, f' 93, f' 94, f' 95, f' 96, f' 97, f' 98, f' 99, f' 100, f' 101, f' 102] from rfl, k0, k3, k5, k6, k7]
      clear F' k0 k3 k5 k6 k7
      go_wp2_with fail
      obtain ⟨s5, hs5⟩ : ∃ s5, s5 = ({ s4 with v := v6, lv := s4.lv ++ [⟨f, t, d6, lbs⟩] } : PS) := ⟨_, rfl⟩
      rw [← hs5] at hP6 hS6
      have hs5l : s5.lent = lbs ++ [167, 182] := by rw [hs5, ← hs4l]
      have hs5v : s5.vl = .slice (some ⟨gc2, 0, none⟩) (lbs.length + 2) cap2 := by rw [hs5, ← hs4v]
      have hs5r : s5.lr = s.lr := by rw [hs5, ← hs4]
      have hs5q : s5.vr = s.vr := by rw [hs5, ← hs4]
      have hs5s : PSame s s5 := by rw [hs5, ← hs4]; exact ⟨rfl, rfl, rfl, rfl, rfl, rfl, rfl, rfl⟩
      have hs5b : s5.lv = s.lv ++ [⟨f, t, d6, lbs⟩] := by rw [hs5, ← hs4]
      have hrl : s.lr.length = s.lv.length := by have := congrArg List.length ha.keys; simpa using this.symm
      clear hs5 hP4 hS4 hst6 hB6
      rename_i K hK
      try rw [show ∀ a : Act, a.put none undef = a from fun _ => rfl]
      refine wp_region_mix (fun wr => wr.heap[pb]? = W6.heap[pb]? ∧ wr.heap[w.heap.size]? = W6.heap[w.heap.size]?) (fun i => i == 5 || i == 7) 7 (by kernel_rfl) rfl (by kernel_rfl) (by kernel_rfl) (by kernel_rfl) ?_
      have hP7 : PInv L pb hbn hbr room s5 ({ W6 with drawn := W6.drawn + 1 } : World) := hP6.keep fun _ _ => rfl
      have hS7 : PStp pb hbn hbr s s5 w ({ W6 with drawn := W6.drawn + 1 } : World) := ⟨hS6.os, hS6.tape, hS6.output, hS6.size, hS6.block, hS6.has⟩
      have hB7 : Blk ({ W6 with drawn := W6.drawn + 1 } : World) w.heap.size (letC f t (.slice lao lbs.length lcap)) 31 := hB6x
      have hC : ({ W6 with drawn := W6.drawn + 1 } : World).heap[pb]? = W6.heap[pb]? ∧ ({ W6 with drawn := W6.drawn + 1 } : World).heap[w.heap.size]? = W6.heap[w.heap.size]? := ⟨rfl, rfl⟩
      generalize ({ W6 with drawn := W6.drawn + 1 } : World) = W7 at *
      have hz7 := hS7.size
      have hfW : From W7 lao lbs := by
        intro h0
        obtain ⟨b, o, e, hc⟩ := hf h0
        have hbL := hlow h0 b o e
        exact ⟨b, o, e, fun j u hu => (World.cell?_of_block (w := w) (hS7.block b hbL.1 hbL.2)).trans (hc j u hu)⟩
      have hrs := rsend_room W7 hP7.ref hroom (by rw [hs5r]; omega) (by omega) f t lao lbs.length lcap lbs rfl (by omega) hfW
      refine withFrL (N := 103) rfl ?_
      intro a0 f0 F0 hff
      have hs0 : f0 0 = Value.pointer (some ⟨pb, 0, none⟩) := hff 0
      have hs3 : f0 3 = Value.pointer (some ⟨w.heap.size, 0, none⟩) := hff 3
      have hs5x : f0 5 = Value.int .i64 (lbs.length : Nat) := hff 5
      have hs6 : f0 6 = Value.slice (some ⟨gc2, 0, none⟩) (lbs.length + 2) cap2 := hff 6
      have hs7 : f0 7 = Value.int .i64 0 := hff 7
      clear hff
      refine ly F0 rfl hC rfl (by omega) (wanted_none rfl) (v := Value.pointer (some ⟨pb, 0, none⟩)) (fun wr hwr => by simp only [execOp, (F0.eval 0 (by omega)).trans (show _ = Value.pointer (some ⟨pb, 0, none⟩) from by simp [upd, hs0, hs3, hs5x, hs6, hs7])]; first | rfl | simp [go_sem]) fun a1 F1 => ?_
      refine ly F1 rfl hC rfl (by omega) (wanted_none rfl) (v := Value.pointer (some ⟨pb, 0, none⟩)) (fun wr hwr => by simp only [execOp, (F1.eval 55 (by omega)).trans (show _ = Value.pointer (some ⟨pb, 0, none⟩) from by simp [upd, hs0, hs3, hs5x, hs6, hs7])]; first | rfl | simp [go_sem]) fun a2 F2 => ?_
      refine ly F2 rfl hC rfl (by omega) (wanted_none rfl) (v := Value.pointer (some ⟨pb, 1, none⟩)) (fun wr hwr => by simp only [execOp, (F2.eval 56 (by omega)).trans (show _ = Value.pointer (some ⟨pb, 0, none⟩) from by simp [upd, hs0, hs3, hs5x, hs6, hs7])]; first | rfl | simp [go_sem]) fun a3 F3 => ?_
      refine ly F3 rfl hC rfl (by omega) (wanted_none rfl) (v := Value.pointer (some ⟨hbr, 0, none⟩)) (fun wr hwr => by simp only [execOp, (F3.eval 57 (by omega)).trans (show _ = Value.pointer (some ⟨pb, 1, none⟩) from by simp [upd, hs0, hs3, hs5x, hs6, hs7])]; simp [go_sem, (show wr.cell? ⟨pb, 1, none⟩ = some (Value.pointer (some ⟨hbr, 0, none⟩)) from (World.cell?_of_block (w := W6) hwr.1).trans (hP6.cell 1))]) fun a4 F4 => ?_
      refine ly F4 rfl hC rfl (by omega) (wanted_none rfl) (v := Value.agg (letC f t (.slice lao lbs.length lcap))) (fun wr hwr => by simp only [execOp, (F4.eval 3 (by omega)).trans (show _ = Value.pointer (some ⟨w.heap.size, 0, none⟩) from by simp [upd, hs0, hs3, hs5x, hs6, hs7]), Instr.loadAt, Instr.sureAddr, Sem.run_bind, Sem.run_pure, Result.andThen_ok, run_loadVar_row (P := Try.prog) wr w.heap.size 31 31 (letC f t (.slice lao lbs.length lcap)) (0, 0) _ (hwr.2.trans hB6x) Try.underlying31 rfl (by kernel_rfl)]) fun a5 F5 => ?_
      refine lc F5 rfl hC rfl (by omega) (wanted_none rfl) (g := 43) (args := #[.pointer (some ⟨hbr, 0, none⟩), .agg (letC f t (.slice lao lbs.length lcap))]) (by simp only [execOp, resolve, invoke, List.map_toArray, List.map_cons, List.map_nil, (F5.eval 58 (by omega)).trans (show _ = Value.pointer (some ⟨hbr, 0, none⟩) from by simp [upd, hs0, hs3, hs5x, hs6, hs7]), (F5.eval 59 (by omega)).trans (show _ = Value.agg (letC f t (.slice lao lbs.length lcap)) from by simp [upd, hs0, hs3, hs5x, hs6, hs7])]; simp [go_sem, Act.eval]) hrs ?_
      rintro e8 W8 ⟨rfl, v8, d8, hB8, hst8, hfr8⟩
      refine ⟨_, rfl, fun a6 F6 => ?_⟩
      have hvb8 : s5.vr.ownBlock ≠ some w.heap.size := fun e => by have := (h.ref.own.lt w.heap.size (by rw [← hs5q]; exact e)).2; omega
      have hC8 : W8.heap[pb]? = W6.heap[pb]? ∧ W8.heap[w.heap.size]? = W6.heap[w.heap.size]? := ⟨(hst8.block pb hP7.pblt hP7.pbne.2.1 (fun e => (hP7.notBox s5.vr (by simp [PS.vals, PS.part2]) pb e).1 rfl)).trans hC.1, (hst8.block w.heap.size hB7.lt (by have := h.ref.lt; omega) hvb8).trans hC.2⟩
      refine ly F6 rfl hC8 rfl (by omega) (wanted_none rfl) (v := Value.int .i64 0) (fun wr hwr => by simp only [execOp, (F6.eval 60 (by omega)).trans (show _ = Value.int .i64 0 from by simp [upd, hs0, hs3, hs5x, hs6, hs7])]; first | rfl | simp [go_sem]) fun a7 F7 => ?_
      refine ⟨fun _ => hC8, ?_⟩
      have hP8 := hP7.rsend (x := ⟨f, t, d8, lbs⟩) hB8 hst8 hfr8
      have hS8 := hS7.trans (PStp.rsend (x := ⟨f, t, d8, lbs⟩) hst8 hfr8)
      have hB8x : Blk W8 w.heap.size (letC f t (.slice lao lbs.length lcap)) 31 := hC8.2.trans hB6x
      refine doneS6 F7 (p0 := 0) (p1 := 3) (p2 := 5) (p3 := 6) (p4 := 7) (p5 := 8) (show _ = Value.pointer (some ⟨pb, 0, none⟩) from by simp [upd, hs0]) (show _ = Value.pointer (some ⟨w.heap.size, 0, none⟩) from by simp [upd, hs3]) (show _ = Value.int .i64 (lbs.length : Nat) from by simp [upd, hs5x]) (show _ = Value.slice (some ⟨gc2, 0, none⟩) (lbs.length + 2) cap2 from by simp [upd, hs6]) (show _ = Value.int .i64 0 from by simp [upd, hs7]) (show _ = Value.int .i64 0 from by simp [upd]) fun f' F' k0 k3 k5 k6 k7 k8 => ?_
      clear F0 F1 F2 F3 F4 F5 F6 F7 hs0 hs3 hs5x hs6 hs7 hrs hC hC8 hP7 hS7 hB7
      obtain ⟨s6, hs6⟩ : ∃ s6, s6 = ({ s5 with vr := v8, lr := s5.lr ++ [⟨f, t, d8, lbs⟩] } : PS) := ⟨_, rfl⟩
      rw [← hs6] at hP8 hS8
      have hs6l : s6.lent = lbs ++ [167, 182] := by rw [hs6, ← hs5l]
      have hs6v : s6.vl = .slice (some ⟨gc2, 0, none⟩) (lbs.length + 2) cap2 := by rw [hs6, ← hs5v]
      have hs6s : PSame s s6 := by rw [hs6]; exact ⟨hs5s.ks, hs5s.ms, hs5s.ls, hs5s.ws, hs5s.fl, hs5s.mark, hs5s.turns, hs5s.size⟩
      have hA6 : PAg room s6 := by
        rw [hs6]
        refine ⟨?_, ?_, fun x hx => ?_⟩
        · show s5.lv.map LetV.k = (s5.lr ++ [(⟨f, t, d8, lbs⟩ : LetV)]).map LetV.k
          rw [hs5b, hs5r, List.map_append, List.map_append, ha.keys]
          rfl
        · show s5.lv.length ≤ room
          rw [hs5b]; simp; omega
        · have hx' : x ∈ s5.lv := hx
          rw [hs5b] at hx'
          rcases List.mem_append.1 hx' with q | q
          · exact ha.small x q
          · simp only [List.mem_singleton] at q
            subst q
            exact hln
      show K _ _
      apply hK
      rw [F'.lit, show ((List.range 103).map f').toArray = #[f' 0, f' 1, f' 2, f' 3, f' 4, f' 5, f' 6, f' 7, f' 8, f' 9, f' 10, f' 11, f' 12, f' 13, f' 14, f' 15, f' 16, f' 17, f' 18, f' 19, f' 20, f' 21, f' 22, f' 23, f' 24, f' 25, f' 26, f' 27, f' 28, f' 29, f' 30, f' 31, f' 32, f' 33, f' 34, f' 35, f' 36, f' 37, f' 38, f' 39, f' 40, f' 41, f' 42, f' 43, f' 44, f' 45, f' 46, f' 47, f' 48, f' 49, f' 50, f' 51, f' 52, f' 53, f' 54, f' 55, f' 56, f' 57, f' 58, f' 59, f' 60, f' 61, f' 62, f' 63, f' 64, f' 65, f' 66, f' 67, f' 68, f' 69, f' 70, f' 71, f' 72, f' 73, f' 74, f' 75, f' 76, f' 77, f' 78, f' 79, f' 80, f' 81, f' 82, f' 83, f' 84, f' 85, f' 86, f' 87, f' 88, f' 89, f' 90, f' 91, f' 92, f' 93, f' 94, f' 95, f' 96, f' 97, f' 98, f' 99, f' 100, f' 101, f' 102] from rfl, k0, k3, k5, k6, k7, k8]
      clear F' k0 k3 k5 k6 k7 k8 hs6 hP6 hS6 hB6x hs5l hs5v hs5r hs5q hs5s hs5b
      have hl8 := hP8.lentO
      rw [hs6l, hs6v, List.length_append] at hl8
      obtain ⟨xo, xc, ex, _, _, hfr8x, _⟩ := own_from hl8
      cases ex
      have hfc8 : From W8 (some ⟨gc2, 0, none⟩) lbs := fun h0 => by
        obtain ⟨b, o, e, hc⟩ := hfr8x (by simp)
        exact ⟨b, o, e, fun j u hu => hc j u (by rw [List.getElem?_append_left (List.getElem?_eq_some_iff.1 hu).1]; exact hu)⟩
      have hfl8 : From W8 lao lbs := by
        intro h0
        obtain ⟨b, o, e, hc⟩ := hf h0
        have hbL := hlow h0 b o e
        exact ⟨b, o, e, fun j u hu => (World.cell?_of_block (w := w) (hS8.block b hbL.1 hbL.2)).trans (hc j u hu)⟩
      have q1 : W8.cell? ⟨gc2, lbs.length, none⟩ = some (.int .u8 167) := by
        obtain ⟨b, o, e, hc⟩ := hfr8x (by simp)
        cases e
        have := hc lbs.length 167 (by simp)
        rwa [Nat.zero_add] at this
      have q2 : W8.cell? ⟨gc2, lbs.length + 1, none⟩ = some (.int .u8 182) := by
        obtain ⟨b, o, e, hc⟩ := hfr8x (by simp)
        cases e
        have := hc (lbs.length + 1) 182 (by simp)
        rwa [Nat.zero_add] at this
      have hcv1 := conv_run W8 (some ⟨gc2, 0, none⟩) lbs.length cap2 lbs rfl hfc8
      have hcv2 := conv_run W8 lao lbs.length lcap lbs rfl hfl8
      have hcv3 : ∀ q, (convert 29 9 (.slice (some ⟨gc2, 0, none⟩) lbs.length cap2)).run Try.prog (W8.drewN q) = .ok (.string ⟨lbs.toArray⟩) (W8.drewN q) := fun q => conv_run (W8.drewN q) (some ⟨gc2, 0, none⟩) lbs.length cap2 lbs rfl hfc8
      have hcv4 : ∀ q, (convert 29 9 (.slice lao lbs.length lcap)).run Try.prog (W8.drewN q) = .ok (.string ⟨lbs.toArray⟩) (W8.drewN q) := fun q => conv_run (W8.drewN q) lao lbs.length lcap lbs rfl hfl8
      have c2 : W8.cell? ⟨w.heap.size, 2, none⟩ = some (.slice lao lbs.length lcap) := hB8x.cell 2
      clear hl8 hfr8x hfc8 hfl8
      go_wp2_with fail
      go_quiet (fail)
      have hPq : PInv L pb hbn hbr room { s6 with lent := lbs ++ [167, 182] } (W8.drewN nq) := by
        have := hP8.drewN nq
        rw [← hs6l]
        exact this
      have hSq : PStp pb hbn hbr s { s6 with lent := lbs ++ [167, 182] } w (W8.drewN nq) := by
        rw [← hs6l]
        exact ⟨hS8.os, hS8.tape, hS8.output, hS8.size, hS8.block, hS8.has⟩
      clear hP8 hS8 q1 q2 hcv1 hcv2 hcv3 hcv4 c2 hB8x
      generalize (W8.drewN nq) = W9 at *
      go_wp2
      go_loopw [10] (fun x wr => ∃ (k : Nat) (bs' : List UInt8), k ≤ lbs.length + 2 ∧ x = .int .i64 k ∧ bs'.length = lbs.length + 2 ∧ PInv L pb hbn hbr room { s6 with lent := bs' } wr ∧ PStp pb hbn hbr s { s6 with lent := bs' } w wr) (fun x _ => lbs.length + 2 - (intOf x).toNat)
      case atStart => exact ⟨0, lbs ++ [167, 182], Nat.zero_le _, rfl, by simp, hPq, hSq⟩
      case round =>
        obtain ⟨k, bs', hk, rfl, hbl, hPk, hSk⟩ := hrel
        clear hPq hSq
        by_cases hlt : k < lbs.length + 2
        · have hl9 : wr.ownsRow L 5 1 (.slice (some ⟨gc2, 0, none⟩) (lbs.length + 2) cap2) (lbs.length + 2) (bs'.map B) := by
            have := hPk.lentO
            rw [show ({ s6 with lent := bs' } : PS).vl = s6.vl from rfl, hs6v, show ({ s6 with lent := bs' } : PS).lent = bs' from rfl, hbl] at this
            exact this
          obtain ⟨cur, hrow⟩ := ownsRow_type hl9 (g := gc2) rfl
          have hcell : ∃ x, wr.cell? ⟨gc2, k, none⟩ = some x := by
            obtain ⟨u, hu⟩ : ∃ u, bs'[k]? = some u := ⟨bs'[k]'(by omega), List.getElem?_eq_getElem _⟩
            have := hl9.cells (g := gc2) rfl k (B u) (by rw [List.getElem?_map, hu]; rfl)
            rw [addr_add, Nat.zero_add] at this
            exact ⟨_, this⟩
          obtain ⟨x0, hx0⟩ := hcell
          have hz9 : wr.frozen? ⟨gc2, k, none⟩ = false := by simp [World.frozen?, hrow]
          obtain ⟨u, hu⟩ : ∃ u : UInt8, ((u.toNat : Nat) : Int) = (50 + (k : Int)) % 256 := ⟨UInt8.ofNat ((50 + k) % 256), by rw [UInt8.toNat_ofNat_of_lt' (by show (50 + k) % 256 < 256; omega)]; omega⟩
          obtain ⟨hP', hS'⟩ := hPk.write (g := gc2) (cap := cap2) (k := k) (by show s6.vl = .slice _ bs'.length _; rw [hs6v, hbl]) u (by show k < bs'.length; omega)
          rw [B, hu] at hP' hS'
          have hS2 := hSk.trans hS'
          have HP : Hid _ := hP'
          have HS : Hid _ := hS2
          clear hP' hS' hS2 hPk hSk hl9 hrow
          go_wp2
          go_roundw
          case rel => exact ⟨k + 1, bs'.set k u, by omega, by go_num, by simp [hbl], HP.out, HS.out⟩
          case measure => simp [intOf]; omega
        · have HP : Hid _ := hPk
          have HS : Hid _ := hSk
          clear hPk hSk
          go_wp2_with (first | (go_at_call 9; refine (num_any _ _).mono ?_; rintro e9 w9 ⟨rfl, rfl⟩) | fail)
          go_ret
          exact ⟨rfl, _, HP.out, ⟨hA6.keys, hA6.len, hA6.small⟩, HS.out, ⟨hs6s.ks, hs6s.ms, hs6s.ls, hs6s.ws, hs6s.fl, hs6s.mark, hs6s.turns, hs6s.size⟩⟩
    · rename_i K hK
      try rw [show ∀ a : Act, a.put none undef = a from fun _ => rfl]
      refine wp_region_mix (fun wr => wr.heap[pb]? = W4.heap[pb]? ∧ wr.heap[w.heap.size]? = W4.heap[w.heap.size]?) (fun i => i == 12 || i == 14) 14 (by kernel_rfl) rfl (by kernel_rfl) (by kernel_rfl) (by kernel_rfl) ?_
      have hP5 : PInv L pb hbn hbr room s4 ({ W4 with drawn := W4.drawn + 1 } : World) := hP4.keep fun _ _ => rfl
      have hS5 : PStp pb hbn hbr s s4 w ({ W4 with drawn := W4.drawn + 1 } : World) := ⟨hS4.os, hS4.tape, hS4.output, hS4.size, hS4.block, hS4.has⟩
      have hB5 : Blk ({ W4 with drawn := W4.drawn + 1 } : World) w.heap.size (letC f t (.slice lao lbs.length lcap)) 31 := hB4
      have hC : ({ W4 with drawn := W4.drawn + 1 } : World).heap[pb]? = W4.heap[pb]? ∧ ({ W4 with drawn := W4.drawn + 1 } : World).heap[w.heap.size]? = W4.heap[w.heap.size]? := ⟨rfl, rfl⟩
      generalize ({ W4 with drawn := W4.drawn + 1 } : World) = W5 at *
      have hz5 := hS5.size
      have hfc : From W5 (some ⟨gc2, 0, none⟩) lbs := by
        have hl := hP5.lentO
        rw [hs4l, hs4v, List.length_append] at hl
        obtain ⟨xo, xc, e, _, _, hfr, _⟩ := own_from hl
        cases e
        intro h0
        obtain ⟨b, o, e, hc⟩ := hfr (by simp)
        exact ⟨b, o, e, fun j u hu => hc j u (by rw [List.getElem?_append_left (List.getElem?_eq_some_iff.1 hu).1]; exact hu)⟩
      have hgc : gc2 < W5.heap.size := by
        have hl := hP5.lentO
        rw [hs4v] at hl
        exact (hl.lt gc2 rfl).2
      have hsend := send_full W5 hP5.bag hroom (by rw [hs4b]; omega) (.slice (some ⟨gc2, 0, none⟩) lbs.length cap2) f t
      refine withFrL (N := 103) rfl ?_
      intro a0 f0 F0 hff
      have hs0 : f0 0 = Value.pointer (some ⟨pb, 0, none⟩) := hff 0
      have hs3 : f0 3 = Value.pointer (some ⟨w.heap.size, 0, none⟩) := hff 3
      have hs5 : f0 5 = Value.int .i64 (lbs.length : Nat) := hff 5
      have hs6 : f0 6 = Value.slice (some ⟨gc2, 0, none⟩) (lbs.length + 2) cap2 := hff 6
      clear hff
      refine ly F0 rfl hC rfl (by omega) (wanted_none rfl) (v := Value.pointer (some ⟨pb, 0, none⟩)) (fun wr hwr => by simp only [execOp, (F0.eval 0 (by omega)).trans (show _ = Value.pointer (some ⟨pb, 0, none⟩) from by simp [upd, hs0, hs3, hs5, hs6])]; first | rfl | simp [go_sem]) fun a1 F1 => ?_
      refine ly F1 rfl hC rfl (by omega) (wanted_none rfl) (v := Value.pointer (some ⟨pb, 0, none⟩)) (fun wr hwr => by simp only [execOp, (F1.eval 42 (by omega)).trans (show _ = Value.pointer (some ⟨pb, 0, none⟩) from by simp [upd, hs0, hs3, hs5, hs6])]; first | rfl | simp [go_sem]) fun a2 F2 => ?_
      refine ly F2 rfl hC rfl (by omega) (wanted_none rfl) (v := Value.pointer (some ⟨pb, 0, none⟩)) (fun wr hwr => by simp only [execOp, (F2.eval 43 (by omega)).trans (show _ = Value.pointer (some ⟨pb, 0, none⟩) from by simp [upd, hs0, hs3, hs5, hs6])]; first | rfl | simp [go_sem]) fun a3 F3 => ?_
      refine ly F3 rfl hC rfl (by omega) (wanted_none rfl) (v := Value.pointer (some ⟨hbn, 0, none⟩)) (fun wr hwr => by simp only [execOp, (F3.eval 44 (by omega)).trans (show _ = Value.pointer (some ⟨pb, 0, none⟩) from by simp [upd, hs0, hs3, hs5, hs6])]; simp [go_sem, (show wr.cell? ⟨pb, 0, none⟩ = some (Value.pointer (some ⟨hbn, 0, none⟩)) from (World.cell?_of_block (w := W4) hwr.1).trans (hP4.cell 0))]) fun a4 F4 => ?_
      refine ly F4 rfl hC rfl (by omega) (wanted_none rfl) (v := Value.pointer (some ⟨w.heap.size, 0, none⟩)) (fun wr hwr => by simp only [execOp, (F4.eval 3 (by omega)).trans (show _ = Value.pointer (some ⟨w.heap.size, 0, none⟩) from by simp [upd, hs0, hs3, hs5, hs6])]; first | rfl | simp [go_sem]) fun a5 F5 => ?_
      refine ly F5 rfl hC rfl (by omega) (wanted_none rfl) (v := Value.int .i64 f) (fun wr hwr => by simp only [execOp, (F5.eval 46 (by omega)).trans (show _ = Value.pointer (some ⟨w.heap.size, 0, none⟩) from by simp [upd, hs0, hs3, hs5, hs6])]; simp [go_sem, (show wr.cell? ⟨w.heap.size, 0, none⟩ = some (Value.int .i64 f) from (World.cell?_of_block (w := W4) hwr.2).trans (hB4.cell 0))]) fun a6 F6 => ?_
      refine ly F6 rfl hC rfl (by omega) (wanted_none rfl) (v := Value.pointer (some ⟨w.heap.size, 1, none⟩)) (fun wr hwr => by simp only [execOp, (F6.eval 3 (by omega)).trans (show _ = Value.pointer (some ⟨w.heap.size, 0, none⟩) from by simp [upd, hs0, hs3, hs5, hs6])]; first | rfl | simp [go_sem]) fun a7 F7 => ?_
      refine ly F7 rfl hC rfl (by omega) (wanted_none rfl) (v := Value.int .i64 t) (fun wr hwr => by simp only [execOp, (F7.eval 48 (by omega)).trans (show _ = Value.pointer (some ⟨w.heap.size, 1, none⟩) from by simp [upd, hs0, hs3, hs5, hs6])]; simp [go_sem, (show wr.cell? ⟨w.heap.size, 1, none⟩ = some (Value.int .i64 t) from (World.cell?_of_block (w := W4) hwr.2).trans (hB4.cell 1))]) fun a8 F8 => ?_
      refine ly F8 rfl hC rfl (by omega) (wanted_none rfl) (v := Value.slice (some ⟨gc2, 0, none⟩) (lbs.length + 2) cap2) (fun wr hwr => by simp only [execOp, (F8.eval 6 (by omega)).trans (show _ = Value.slice (some ⟨gc2, 0, none⟩) (lbs.length + 2) cap2 from by simp [upd, hs0, hs3, hs5, hs6])]; first | rfl | simp [go_sem]) fun a9 F9 => ?_
      refine ly F9 rfl hC rfl (by omega) (wanted_none rfl) (v := Value.int .i64 (lbs.length : Nat)) (fun wr hwr => by simp only [execOp, (F9.eval 5 (by omega)).trans (show _ = Value.int .i64 (lbs.length : Nat) from by simp [upd, hs0, hs3, hs5, hs6])]; first | rfl | simp [go_sem]) fun a10 F10 => ?_
      refine ly F10 rfl hC rfl (by omega) (wanted_none rfl) (v := Value.slice (some ⟨gc2, 0, none⟩) lbs.length cap2) (fun wr hwr => by simp only [execOp, Option.map_some, Option.map_none, (F10.eval 50 (by omega)).trans (show _ = Value.slice (some ⟨gc2, 0, none⟩) (lbs.length + 2) cap2 from by simp [upd, hs0, hs3, hs5, hs6]), (F10.eval 51 (by omega)).trans (show _ = Value.int .i64 (lbs.length : Nat) from by simp [upd, hs0, hs3, hs5, hs6]), Sem.run_bind, slice_to5 gc2 (lbs.length + 2) cap2 lbs.length (by omega) wr, Result.andThen_ok, Sem.run_pure]) fun a11 F11 => ?_
      refine ly F11 rfl hC rfl (by omega) (wanted_none rfl) (v := Value.agg (letC f t (Value.slice (some ⟨gc2, 0, none⟩) lbs.length cap2))) (fun wr hwr => by simp only [execOp, List.map_toArray, List.map_cons, List.map_nil, (F11.eval 47 (by omega)).trans (show _ = Value.int .i64 f from by simp [upd, hs0, hs3, hs5, hs6]), (F11.eval 49 (by omega)).trans (show _ = Value.int .i64 t from by simp [upd, hs0, hs3, hs5, hs6]), (F11.eval 52 (by omega)).trans (show _ = Value.slice (some ⟨gc2, 0, none⟩) lbs.length cap2 from by simp [upd, hs0, hs3, hs5, hs6])]; simp [go_sem, letC]) fun a12 F12 => ?_
      refine lc F12 rfl hC rfl (by omega) (wanted_none rfl) (g := 10) (args := #[.pointer (some ⟨hbn, 0, none⟩), .agg (letC f t (.slice (some ⟨gc2, 0, none⟩) lbs.length cap2))]) (by simp only [execOp, resolve, invoke, List.map_toArray, List.map_cons, List.map_nil, (F12.eval 45 (by omega)).trans (show _ = Value.pointer (some ⟨hbn, 0, none⟩) from by simp [upd, hs0, hs3, hs5, hs6]), (F12.eval 53 (by omega)).trans (show _ = Value.agg (letC f t (Value.slice (some ⟨gc2, 0, none⟩) lbs.length cap2)) from by simp [upd, hs0, hs3, hs5, hs6])]; simp [go_sem, Act.eval]) hsend ?_
      rintro e5 W6 ⟨rfl, hb6⟩
      refine ⟨_, rfl, fun a13 F13 => ?_⟩
      have hC6 : W6.heap[pb]? = W4.heap[pb]? ∧ W6.heap[w.heap.size]? = W4.heap[w.heap.size]? := ⟨(hb6.block pb hP5.pblt).trans hC.1, (hb6.block w.heap.size hB5.lt).trans hC.2⟩
      refine ly F13 rfl hC6 rfl (by omega) (wanted_none rfl) (v := Value.int .i64 41) (fun wr hwr => by simp only [execOp, (F13.eval 54 (by omega)).trans (show _ = Value.int .i64 41 from by simp [upd, hs0, hs3, hs5, hs6])]; first | rfl | simp [go_sem]) fun a14 F14 => ?_
      refine ⟨fun _ => hC6, ?_⟩
      have hP6 := hP5.below hb6
      have hS6 := hS5.trans (PStp.ofBelow (s := s4) hb6)
      have hB6x : Blk W6 w.heap.size (letC f t (.slice lao lbs.length lcap)) 31 := hC6.2.trans hB4
      refine doneS5 F14 (p0 := 0) (p1 := 3) (p2 := 5) (p3 := 6) (p4 := 7) (show _ = Value.pointer (some ⟨pb, 0, none⟩) from by simp [upd, hs0]) (show _ = Value.pointer (some ⟨w.heap.size, 0, none⟩) from by simp [upd, hs3]) (show _ = Value.int .i64 (lbs.length : Nat) from by simp [upd, hs5]) (show _ = Value.slice (some ⟨gc2, 0, none⟩) (lbs.length + 2) cap2 from by simp [upd, hs6]) (show _ = Value.int .i64 41 from by simp [upd]) fun f' F' k0 k3 k5 k6 k7 => ?_
      clear F0 F1 F2 F3 F4 F5 F6 F7 F8 F9 F10 F11 F12 F13 F14 hs0 hs3 hs5 hs6 hsend hC hC6 hP5 hS5 hB5
      show K _ _
      apply hK
      rw [F'.lit, show ((List.range 103).map f').toArray = #[f' 0, f' 1, f' 2, f' 3, f' 4, f' 5, f' 6, f' 7, f' 8, f' 9, f' 10, f' 11, f' 12, f' 13, f' 14, f' 15, f' 16, f' 17, f' 18, f' 19, f' 20, f' 21, f' 22, f' 23, f' 24, f' 25, f' 26, f' 27, f' 28, f' 29, f' 30, f' 31, f' 32, f' 33, f' 34, f' 35, f' 36, f' 37, f' 38, f' 39, f' 40, f' 41, f' 42, f' 43, f' 44, f' 45, f' 46, f' 47, f' 48, f' 49, f' 50, f' 51, f' 52, f' 53, f' 54, f' 55, f' 56, f' 57, f' 58, f' 59, f' 60, f' 61, f' 62, f' 63, f' 64, f' 65, f' 66, f' 67, f' 68, f' 69, f' 70, f' 71, f' 72, f' 73, f' 74, f' 75, f' 76, f' 77, f' 78, f' 79, f' 80, f' 81, f' 82, f' 83, f' 84, f' 85, f' 86, f' 87, f' 88, f' 89, f' 90, f' 91, f' 92, f' 93, f' 94, f' 95, f' 96, f' 97, f' 98, f' 99, f' 100, f' 101, f' 102] from rfl, k0, k3, k5, k6, k7]
      clear F' k0 k3 k5 k6 k7
      go_wp2_with fail
      obtain ⟨s5, hs5⟩ : ∃ s5, s5 = s4 := ⟨_, rfl⟩
      rw [← hs5] at hP6 hS6
      have hs5l : s5.lent = lbs ++ [167, 182] := by rw [hs5, ← hs4l]
      have hs5v : s5.vl = .slice (some ⟨gc2, 0, none⟩) (lbs.length + 2) cap2 := by rw [hs5, ← hs4v]
      have hs5r : s5.lr = s.lr := by rw [hs5, ← hs4]
      have hs5q : s5.vr = s.vr := by rw [hs5, ← hs4]
      have hs5s : PSame s s5 := by rw [hs5, ← hs4]; exact ⟨rfl, rfl, rfl, rfl, rfl, rfl, rfl, rfl⟩
      have hs5b : s5.lv = s.lv := by rw [hs5, ← hs4]
      have hrl : s.lr.length = s.lv.length := by have := congrArg List.length ha.keys; simpa using this.symm
      clear hs5 hP4 hS4 hb6
      rename_i K hK
      try rw [show ∀ a : Act, a.put none undef = a from fun _ => rfl]
      refine wp_region_mix (fun wr => wr.heap[pb]? = W6.heap[pb]? ∧ wr.heap[w.heap.size]? = W6.heap[w.heap.size]?) (fun i => i == 5 || i == 7) 7 (by kernel_rfl) rfl (by kernel_rfl) (by kernel_rfl) (by kernel_rfl) ?_
      have hP7 : PInv L pb hbn hbr room s5 ({ W6 with drawn := W6.drawn + 1 } : World) := hP6.keep fun _ _ => rfl
      have hS7 : PStp pb hbn hbr s s5 w ({ W6 with drawn := W6.drawn + 1 } : World) := ⟨hS6.os, hS6.tape, hS6.output, hS6.size, hS6.block, hS6.has⟩
      have hB7 : Blk ({ W6 with drawn := W6.drawn + 1 } : World) w.heap.size (letC f t (.slice lao lbs.length lcap)) 31 := hB6x
      have hC : ({ W6 with drawn := W6.drawn + 1 } : World).heap[pb]? = W6.heap[pb]? ∧ ({ W6 with drawn := W6.drawn + 1 } : World).heap[w.heap.size]? = W6.heap[w.heap.size]? := ⟨rfl, rfl⟩
      generalize ({ W6 with drawn := W6.drawn + 1 } : World) = W7 at *
      have hz7 := hS7.size
      have hfW : From W7 lao lbs := by
        intro h0
        obtain ⟨b, o, e, hc⟩ := hf h0
        have hbL := hlow h0 b o e
        exact ⟨b, o, e, fun j u hu => (World.cell?_of_block (w := w) (hS7.block b hbL.1 hbL.2)).trans (hc j u hu)⟩
      have hrs := rsend_full W7 hP7.ref hroom (by rw [hs5r]; omega) (.slice lao lbs.length lcap) f t
      refine withFrL (N := 103) rfl ?_
      intro a0 f0 F0 hff
      have hs0 : f0 0 = Value.pointer (some ⟨pb, 0, none⟩) := hff 0
      have hs3 : f0 3 = Value.pointer (some ⟨w.heap.size, 0, none⟩) := hff 3
      have hs5x : f0 5 = Value.int .i64 (lbs.length : Nat) := hff 5
      have hs6 : f0 6 = Value.slice (some ⟨gc2, 0, none⟩) (lbs.length + 2) cap2 := hff 6
      have hs7 : f0 7 = Value.int .i64 41 := hff 7
      clear hff
      refine ly F0 rfl hC rfl (by omega) (wanted_none rfl) (v := Value.pointer (some ⟨pb, 0, none⟩)) (fun wr hwr => by simp only [execOp, (F0.eval 0 (by omega)).trans (show _ = Value.pointer (some ⟨pb, 0, none⟩) from by simp [upd, hs0, hs3, hs5x, hs6, hs7])]; first | rfl | simp [go_sem]) fun a1 F1 => ?_
      refine ly F1 rfl hC rfl (by omega) (wanted_none rfl) (v := Value.pointer (some ⟨pb, 0, none⟩)) (fun wr hwr => by simp only [execOp, (F1.eval 55 (by omega)).trans (show _ = Value.pointer (some ⟨pb, 0, none⟩) from by simp [upd, hs0, hs3, hs5x, hs6, hs7])]; first | rfl | simp [go_sem]) fun a2 F2 => ?_
      refine ly F2 rfl hC rfl (by omega) (wanted_none rfl) (v := Value.pointer (some ⟨pb, 1, none⟩)) (fun wr hwr => by simp only [execOp, (F2.eval 56 (by omega)).trans (show _ = Value.pointer (some ⟨pb, 0, none⟩) from by simp [upd, hs0, hs3, hs5x, hs6, hs7])]; first | rfl | simp [go_sem]) fun a3 F3 => ?_
      refine ly F3 rfl hC rfl (by omega) (wanted_none rfl) (v := Value.pointer (some ⟨hbr, 0, none⟩)) (fun wr hwr => by simp only [execOp, (F3.eval 57 (by omega)).trans (show _ = Value.pointer (some ⟨pb, 1, none⟩) from by simp [upd, hs0, hs3, hs5x, hs6, hs7])]; simp [go_sem, (show wr.cell? ⟨pb, 1, none⟩ = some (Value.pointer (some ⟨hbr, 0, none⟩)) from (World.cell?_of_block (w := W6) hwr.1).trans (hP6.cell 1))]) fun a4 F4 => ?_
      refine ly F4 rfl hC rfl (by omega) (wanted_none rfl) (v := Value.agg (letC f t (.slice lao lbs.length lcap))) (fun wr hwr => by simp only [execOp, (F4.eval 3 (by omega)).trans (show _ = Value.pointer (some ⟨w.heap.size, 0, none⟩) from by simp [upd, hs0, hs3, hs5x, hs6, hs7]), Instr.loadAt, Instr.sureAddr, Sem.run_bind, Sem.run_pure, Result.andThen_ok, run_loadVar_row (P := Try.prog) wr w.heap.size 31 31 (letC f t (.slice lao lbs.length lcap)) (0, 0) _ (hwr.2.trans hB6x) Try.underlying31 rfl (by kernel_rfl)]) fun a5 F5 => ?_
      refine lc F5 rfl hC rfl (by omega) (wanted_none rfl) (g := 43) (args := #[.pointer (some ⟨hbr, 0, none⟩), .agg (letC f t (.slice lao lbs.length lcap))]) (by simp only [execOp, resolve, invoke, List.map_toArray, List.map_cons, List.map_nil, (F5.eval 58 (by omega)).trans (show _ = Value.pointer (some ⟨hbr, 0, none⟩) from by simp [upd, hs0, hs3, hs5x, hs6, hs7]), (F5.eval 59 (by omega)).trans (show _ = Value.agg (letC f t (.slice lao lbs.length lcap)) from by simp [upd, hs0, hs3, hs5x, hs6, hs7])]; simp [go_sem, Act.eval]) hrs ?_
      rintro e8 W8 ⟨rfl, hb8⟩
      refine ⟨_, rfl, fun a6 F6 => ?_⟩
      have hC8 : W8.heap[pb]? = W6.heap[pb]? ∧ W8.heap[w.heap.size]? = W6.heap[w.heap.size]? := ⟨(hb8.block pb hP7.pblt).trans hC.1, (hb8.block w.heap.size hB7.lt).trans hC.2⟩
      refine ly F6 rfl hC8 rfl (by omega) (wanted_none rfl) (v := Value.int .i64 41) (fun wr hwr => by simp only [execOp, (F6.eval 60 (by omega)).trans (show _ = Value.int .i64 41 from by simp [upd, hs0, hs3, hs5x, hs6, hs7])]; first | rfl | simp [go_sem]) fun a7 F7 => ?_
      refine ⟨fun _ => hC8, ?_⟩
      have hP8 := hP7.below hb8
      have hS8 := hS7.trans (PStp.ofBelow (s := s5) hb8)
      have hB8x : Blk W8 w.heap.size (letC f t (.slice lao lbs.length lcap)) 31 := hC8.2.trans hB6x
      refine doneS6 F7 (p0 := 0) (p1 := 3) (p2 := 5) (p3 := 6) (p4 := 7) (p5 := 8) (show _ = Value.pointer (some ⟨pb, 0, none⟩) from by simp [upd, hs0]) (show _ = Value.pointer (some ⟨w.heap.size, 0, none⟩) from by simp [upd, hs3]) (show _ = Value.int .i64 (lbs.length : Nat) from by simp [upd, hs5x]) (show _ = Value.slice (some ⟨gc2, 0, none⟩) (lbs.length + 2) cap2 from by simp [upd, hs6]) (show _ = Value.int .i64 41 from by simp [upd, hs7]) (show _ = Value.int .i64 41 from by simp [upd]) fun f' F' k0 k3 k5 k6 k7 k8 => ?_
      clear F0 F1 F2 F3 F4 F5 F6 F7 hs0 hs3 hs5x hs6 hs7 hrs hC hC8 hP7 hS7 hB7
      obtain ⟨s6, hs6⟩ : ∃ s6, s6 = s5 := ⟨_, rfl⟩
      rw [← hs6] at hP8 hS8
      have hs6l : s6.lent = lbs ++ [167, 182] := by rw [hs6, ← hs5l]
      have hs6v : s6.vl = .slice (some ⟨gc2, 0, none⟩) (lbs.length + 2) cap2 := by rw [hs6, ← hs5v]
      have hs6s : PSame s s6 := by rw [hs6]; exact ⟨hs5s.ks, hs5s.ms, hs5s.ls, hs5s.ws, hs5s.fl, hs5s.mark, hs5s.turns, hs5s.size⟩
      have hA6 : PAg room s6 := by
        rw [hs6]
        refine ⟨?_, ?_, fun x hx => ?_⟩
        · rw [hs5b, hs5r]; exact ha.keys
        · rw [hs5b]; exact ha.len
        · rw [hs5b] at hx; exact ha.small x hx
      show K _ _
      apply hK
      rw [F'.lit, show ((List.range 103).map f').toArray = #[f' 0, f' 1, f' 2, f' 3, f' 4, f' 5, f' 6, f' 7, f' 8, f' 9, f' 10, f' 11, f' 12, f' 13, f' 14, f' 15, f' 16, f' 17, f' 18, f' 19, f' 20, f' 21, f' 22, f' 23, f' 24, f' 25, f' 26, f' 27, f' 28, f' 29, f' 30, f' 31, f' 32, f' 33, f' 34, f' 35, f' 36, f' 37, f' 38, f' 39, f' 40, f' 41, f' 42, f' 43, f' 44, f' 45, f' 46, f' 47, f' 48, f' 49, f' 50, f' 51, f' 52, f' 53, f' 54, f' 55, f' 56, f' 57, f' 58, f' 59, f' 60, f' 61, f' 62, f' 63, f' 64, f' 65, f' 66, f' 67, f' 68, f' 69, f' 70, f' 71, f' 72, f' 73, f' 74, f' 75, f' 76, f' 77, f' 78, f' 79, f' 80, f' 81, f' 82, f' 83, f' 84, f' 85, f' 86, f' 87, f' 88, f' 89, f' 90, f' 91, f' 92, f' 93, f' 94, f' 95, f' 96, f' 97, f' 98, f' 99, f' 100, f' 101, f' 102] from rfl, k0, k3, k5, k6, k7, k8]
      clear F' k0 k3 k5 k6 k7 k8 hs6 hP6 hS6 hB6x hs5l hs5v hs5r hs5q hs5s hs5b
      have hl8 := hP8.lentO
      rw [hs6l, hs6v, List.length_append] at hl8
      obtain ⟨xo, xc, ex, _, _, hfr8x, _⟩ := own_from hl8
      cases ex
      have hfc8 : From W8 (some ⟨gc2, 0, none⟩) lbs := fun h0 => by
        obtain ⟨b, o, e, hc⟩ := hfr8x (by simp)
        exact ⟨b, o, e, fun j u hu => hc j u (by rw [List.getElem?_append_left (List.getElem?_eq_some_iff.1 hu).1]; exact hu)⟩
      have hfl8 : From W8 lao lbs := by
        intro h0
        obtain ⟨b, o, e, hc⟩ := hf h0
        have hbL := hlow h0 b o e
        exact ⟨b, o, e, fun j u hu => (World.cell?_of_block (w := w) (hS8.block b hbL.1 hbL.2)).trans (hc j u hu)⟩
      have q1 : W8.cell? ⟨gc2, lbs.length, none⟩ = some (.int .u8 167) := by
        obtain ⟨b, o, e, hc⟩ := hfr8x (by simp)
        cases e
        have := hc lbs.length 167 (by simp)
        rwa [Nat.zero_add] at this
      have q2 : W8.cell? ⟨gc2, lbs.length + 1, none⟩ = some (.int .u8 182) := by
        obtain ⟨b, o, e, hc⟩ := hfr8x (by simp)
        cases e
        have := hc (lbs.length + 1) 182 (by simp)
        rwa [Nat.zero_add] at this
      have hcv1 := conv_run W8 (some ⟨gc2, 0, none⟩) lbs.length cap2 lbs rfl hfc8
      have hcv2 := conv_run W8 lao lbs.length lcap lbs rfl hfl8
      have hcv3 : ∀ q, (convert 29 9 (.slice (some ⟨gc2, 0, none⟩) lbs.length cap2)).run Try.prog (W8.drewN q) = .ok (.string ⟨lbs.toArray⟩) (W8.drewN q) := fun q => conv_run (W8.drewN q) (some ⟨gc2, 0, none⟩) lbs.length cap2 lbs rfl hfc8
      have hcv4 : ∀ q, (convert 29 9 (.slice lao lbs.length lcap)).run Try.prog (W8.drewN q) = .ok (.string ⟨lbs.toArray⟩) (W8.drewN q) := fun q => conv_run (W8.drewN q) lao lbs.length lcap lbs rfl hfl8
      have c2 : W8.cell? ⟨w.heap.size, 2, none⟩ = some (.slice lao lbs.length lcap) := hB8x.cell 2
      clear hl8 hfr8x hfc8 hfl8
      go_wp2_with fail
      go_quiet (fail)
      have hPq : PInv L pb hbn hbr room { s6 with lent := lbs ++ [167, 182] } (W8.drewN nq) := by
        have := hP8.drewN nq
        rw [← hs6l]
        exact this
      have hSq : PStp pb hbn hbr s { s6 with lent := lbs ++ [167, 182] } w (W8.drewN nq) := by
        rw [← hs6l]
        exact ⟨hS8.os, hS8.tape, hS8.output, hS8.size, hS8.block, hS8.has⟩
      clear hP8 hS8 q1 q2 hcv1 hcv2 hcv3 hcv4 c2 hB8x
      generalize (W8.drewN nq) = W9 at *
      go_wp2
      go_loopw [10] (fun x wr => ∃ (k : Nat) (bs' : List UInt8), k ≤ lbs.length + 2 ∧ x = .int .i64 k ∧ bs'.length = lbs.length + 2 ∧ PInv L pb hbn hbr room { s6 with lent := bs' } wr ∧ PStp pb hbn hbr s { s6 with lent := bs' } w wr) (fun x _ => lbs.length + 2 - (intOf x).toNat)
      case atStart => exact ⟨0, lbs ++ [167, 182], Nat.zero_le _, rfl, by simp, hPq, hSq⟩
      case round =>
        obtain ⟨k, bs', hk, rfl, hbl, hPk, hSk⟩ := hrel
        clear hPq hSq
        by_cases hlt : k < lbs.length + 2
        · have hl9 : wr.ownsRow L 5 1 (.slice (some ⟨gc2, 0, none⟩) (lbs.length + 2) cap2) (lbs.length + 2) (bs'.map B) := by
            have := hPk.lentO
            rw [show ({ s6 with lent := bs' } : PS).vl = s6.vl from rfl, hs6v, show ({ s6 with lent := bs' } : PS).lent = bs' from rfl, hbl] at this
            exact this
          obtain ⟨cur, hrow⟩ := ownsRow_type hl9 (g := gc2) rfl
          have hcell : ∃ x, wr.cell? ⟨gc2, k, none⟩ = some x := by
            obtain ⟨u, hu⟩ : ∃ u, bs'[k]? = some u := ⟨bs'[k]'(by omega), List.getElem?_eq_getElem _⟩
            have := hl9.cells (g := gc2) rfl k (B u) (by rw [List.getElem?_map, hu]; rfl)
            rw [addr_add, Nat.zero_add] at this
            exact ⟨_, this⟩
          obtain ⟨x0, hx0⟩ := hcell
          have hz9 : wr.frozen? ⟨gc2, k, none⟩ = false := by simp [World.frozen?, hrow]
          obtain ⟨u, hu⟩ : ∃ u : UInt8, ((u.toNat : Nat) : Int) = (50 + (k : Int)) % 256 := ⟨UInt8.ofNat ((50 + k) % 256), by rw [UInt8.toNat_ofNat_of_lt' (by show (50 + k) % 256 < 256; omega)]; omega⟩
          obtain ⟨hP', hS'⟩ := hPk.write (g := gc2) (cap := cap2) (k := k) (by show s6.vl = .slice _ bs'.length _; rw [hs6v, hbl]) u (by show k < bs'.length; omega)
          rw [B, hu] at hP' hS'
          have hS2 := hSk.trans hS'
          have HP : Hid _ := hP'
          have HS : Hid _ := hS2
          clear hP' hS' hS2 hPk hSk hl9 hrow
          go_wp2
          go_roundw
          case rel => exact ⟨k + 1, bs'.set k u, by omega, by go_num, by simp [hbl], HP.out, HS.out⟩
          case measure => simp [intOf]; omega
        · have HP : Hid _ := hPk
          have HS : Hid _ := hSk
          clear hPk hSk
          go_wp2_with (first | (go_at_call 9; refine (num_any _ _).mono ?_; rintro e9 w9 ⟨rfl, rfl⟩) | fail)
          go_ret
          exact ⟨rfl, _, HP.out, ⟨hA6.keys, hA6.len, hA6.small⟩, HS.out, ⟨hs6s.ks, hs6s.ms, hs6s.ls, hs6s.ws, hs6s.fl, hs6s.mark, hs6s.turns, hs6s.size⟩⟩
end Go.Proofs.Ytehjdkdoalmaeaa
