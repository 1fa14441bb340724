import Derived.Test.YtneiomimjgfbpaaJoinB
import Derived.Test.YtneiomimjgfbpaaRefR5
namespace Go.Proofs.Ytneiomimjgfbpaa
open Go.RowKit Go.PlainAid
set_option linter.unusedSimpArgs false
set_option linter.unusedVariables false
/-- What else is as it was, where new blocks were made. -/
structure RX (hb : Nat) (w w' : World) : Prop where
  os : w'.os = w.os
  tape : w'.tape = w.tape
  output : w'.output = w.output
  size : w.heap.size ≤ w'.heap.size
  block : ∀ k, k < w.heap.size → k ≠ hb → w'.heap[k]? = w.heap[k]?
theorem RX.of {hb : Nat} {w w' : World} (h : RW hb w w') : RX hb w w' := ⟨h.os, h.tape, h.output, by rw [h.size]; exact Nat.le_refl _, fun k _ hk => h.block k hk⟩
theorem RX.up {hb : Nat} {w w' : World} (h : Below w.heap.size w w') : RX hb w w' := ⟨h.os, h.tape, h.output, h.size, fun k hk _ => h.block k hk⟩
theorem RX.trans {hb : Nat} {a b c : World} (h : RX hb a b) (k : RX hb b c) : RX hb a c := ⟨k.os.trans h.os, k.tape.trans h.tape, k.output.trans h.output, Nat.le_trans h.size k.size, fun j h1 h2 => (k.block j (Nat.lt_of_lt_of_le h1 h.size) h2).trans (h.block j h1 h2)⟩
theorem results_cell1 {fn : Func} {p : Tmp} {ty : TypeId} (h : fn.results = #[.cell p ty]) (tmps : Array Value) (w : World) (g : Nat) (cs : Array Value)
    (hp : tmps.getD p undef = .pointer (some ⟨g, 0, none⟩)) (hl : (loadVar ty ⟨g, 0, none⟩).run Try.prog w = .ok (.agg cs) w) :
    (results fn tmps).run Try.prog w = .ok (.agg cs) w := by
  have hp' : tmps[p]?.getD undef = .pointer (some ⟨g, 0, none⟩) := by simpa using hp
  simp [results, h, hp', asAddr, hl]
/-- The box of the reader under other stores. -/
theorem RdB.row {w : World} {hb : Nat} {ao : Option Addr} {n cap : Nat} {bs : List UInt8} {st : Nat × Bool} (h : RdB w hb ao n cap bs st) (g : Nat) (cs : Array Value) (hg : g ≠ hb) (hgs : ∀ b o, ao = some ⟨b, o, none⟩ → b ≠ g) : RdB (w.setRow g cs) hb ao n cap bs st := by
  refine ⟨(setRow_other _ _ _ _ (fun e => hg e.symm)).trans h.blk, h.len, fun h0 => ?_, h.le⟩
  obtain ⟨b, off, e, hc⟩ := h.src h0
  exact ⟨b, off, e, fun j u hu => (World.cell?_of_block (w := w) (setRow_other _ _ _ _ (hgs b off e))).trans (hc j u hu)⟩
def two (a b : Int) : Array Value := #[.int .i64 a, .int .i64 b]
theorem two_is : (#[Value.int IntKind.i64 0, .int .i64 0] : Array Value) = two 0 0 := rfl
set_option maxRecDepth 100000 in
set_option maxHeartbeats 1600000 in
theorem rcall2_any (hb : Nat) (ao : Option Addr) (n cap : Nat) (bs : List UInt8) (st : Nat × Bool) (w : World) (hS : RdB w hb ao n cap bs st) (hsm : n ≤ 140737488355328) (hab : ∀ b o, ao = some ⟨b, o, none⟩ → b < w.heap.size) (r1 r2 : Int × Nat × Bool) (h1 : rstep (num 0 63) 0 bs st = r1) (h2 : rstep (num 1 1099511627776) 0 bs r1.2 = r2) :
    Calls Try.prog 91 #[.pointer (some ⟨hb, 0, none⟩)] w fun e w' => e = .returned (.agg (two r1.1 r2.1)) ∧ RdB w' hb ao n cap bs r2.2 ∧ RX hb w w' := by
  have hlt := hS.blk.lt
  have hb1 : Below w.heap.size w (w.alloc (.cells (two 0 0) 29)) := by go_grown
  have hS1 := hS.keep hb1.block
  have hB1 : Blk (w.alloc (.cells (two 0 0) 29)) w.heap.size (two 0 0) 29 := heap_alloc_new w _
  have hn1 := rnum_any hb ao n cap bs st 0 63 (by omega) (by omega) _ hS1 hsm
  rw [h1] at hn1
  have H2 : Hid _ := h2
  clear h1 h2 hS
  go_enter Try.func91, Try.ntmps91
  go_wp2_with fail
  rw [two_is]
  generalize (w.alloc (.cells (two 0 0) 29)) = W at *
  refine hn1.mono ?_
  rintro e1 w1 ⟨rfl, hT1, hW1⟩
  have hB2 : Blk w1 w.heap.size (two 0 0) 29 := (hW1.block _ (by omega)).trans hB1
  have hn2 := rnum_any hb ao n cap bs r1.2 1 1099511627776 (by omega) (by omega) _ hT1 hsm
  rw [H2.out] at hn2
  have HX : Hid _ := (RX.up hb1 : RX hb w W).trans (RX.of hW1)
  clear hn1 hS1 hb1 hT1 hW1 hB1
  go_wp2_with fail
  refine hn2.mono ?_
  rintro e2 w2 ⟨rfl, hT2, hW2⟩
  have hB3 : Blk w2 w.heap.size (two 0 0) 29 := (hW2.block _ (by omega)).trans hB2
  have hx := HX.out.trans (RX.of hW2)
  have hfin : RdB (w2.setRow w.heap.size (two r1.1 r2.1)) hb ao n cap bs r2.2 := hT2.row _ _ (by omega) (fun b o e => by have := hab b o e; omega)
  have hfx : RX hb w (w2.setRow w.heap.size (two r1.1 r2.1)) := ⟨hx.os, hx.tape, hx.output, by simpa [World.setRow] using hx.size, fun k h1 h2 => (setRow_other _ _ _ _ (by omega)).trans (hx.block k h1 h2)⟩
  have hB4 := setRow_blk (cs := two r1.1 r2.1) hB3
  have hall : (two r1.1 r2.1).all (·.oneCell') = true := by simp [two, Value.oneCell']
  have HF : Hid _ := hfin
  have HFX : Hid _ := hfx
  clear hn2 hT2 hW2 hx hfin hfx HX hB2
  have hi : (Try.prog.info? 29).map (·.size) = some (two r1.1 r2.1).size := by show _ = some 2; kernel_rfl
  go_wp2_with (first | (refine wpList_store_row rfl 29 (.tmp 2) (.tmp 9) rfl w.heap.size (two r1.1 r2.1) rfl rfl 29 (two 0 0) hB3 hi rfl hall ?_) | fail)
  go_wp2
  exact bodyPost_ret (results_cell1 Try.results91 _ _ w.heap.size (two r1.1 r2.1) rfl (run_loadVar_row _ _ 29 29 (two r1.1 r2.1) (0, 0) _ hB4 Try.underlying29 rfl hi)) rfl ⟨rfl, HF.out, HFX.out⟩
set_option maxRecDepth 100000 in
set_option maxHeartbeats 1600000 in
theorem repoch2_any (hb : Nat) (ao : Option Addr) (n cap : Nat) (bs : List UInt8) (st : Nat × Bool) (w : World) (hS : RdB w hb ao n cap bs st) (hsm : n ≤ 140737488355328) (hab : ∀ b o, ao = some ⟨b, o, none⟩ → b < w.heap.size) (r1 r2 : Int × Nat × Bool) (h1 : rstep (num 1 1099511627776) 0 bs st = r1) (h2 : rstep (num 0 15) 0 bs r1.2 = r2) :
    Calls Try.prog 102 #[.pointer (some ⟨hb, 0, none⟩)] w fun e w' => e = .returned (.agg (two r1.1 r2.1)) ∧ RdB w' hb ao n cap bs r2.2 ∧ RX hb w w' := by
  have hlt := hS.blk.lt
  have hb1 : Below w.heap.size w (w.alloc (.cells (two 0 0) 25)) := by go_grown
  have hS1 := hS.keep hb1.block
  have hB1 : Blk (w.alloc (.cells (two 0 0) 25)) w.heap.size (two 0 0) 25 := heap_alloc_new w _
  have hn1 := rnum_any hb ao n cap bs st 1 1099511627776 (by omega) (by omega) _ hS1 hsm
  rw [h1] at hn1
  have H2 : Hid _ := h2
  clear h1 h2 hS
  go_enter Try.func102, Try.ntmps102
  go_wp2_with fail
  rw [two_is]
  generalize (w.alloc (.cells (two 0 0) 25)) = W at *
  refine hn1.mono ?_
  rintro e1 w1 ⟨rfl, hT1, hW1⟩
  have hB2 : Blk w1 w.heap.size (two 0 0) 25 := (hW1.block _ (by omega)).trans hB1
  have hn2 := rnum_any hb ao n cap bs r1.2 0 15 (by omega) (by omega) _ hT1 hsm
  rw [H2.out] at hn2
  have HX : Hid _ := (RX.up hb1 : RX hb w W).trans (RX.of hW1)
  clear hn1 hS1 hb1 hT1 hW1 hB1
  go_wp2_with fail
  refine hn2.mono ?_
  rintro e2 w2 ⟨rfl, hT2, hW2⟩
  have hB3 : Blk w2 w.heap.size (two 0 0) 25 := (hW2.block _ (by omega)).trans hB2
  have hx := HX.out.trans (RX.of hW2)
  have hfin : RdB (w2.setRow w.heap.size (two r1.1 r2.1)) hb ao n cap bs r2.2 := hT2.row _ _ (by omega) (fun b o e => by have := hab b o e; omega)
  have hfx : RX hb w (w2.setRow w.heap.size (two r1.1 r2.1)) := ⟨hx.os, hx.tape, hx.output, by simpa [World.setRow] using hx.size, fun k h1 h2 => (setRow_other _ _ _ _ (by omega)).trans (hx.block k h1 h2)⟩
  have hB4 := setRow_blk (cs := two r1.1 r2.1) hB3
  have hall : (two r1.1 r2.1).all (·.oneCell') = true := by simp [two, Value.oneCell']
  have HF : Hid _ := hfin
  have HFX : Hid _ := hfx
  clear hn2 hT2 hW2 hx hfin hfx HX hB2
  have hi : (Try.prog.info? 25).map (·.size) = some (two r1.1 r2.1).size := by show _ = some 2; kernel_rfl
  go_wp2_with (first | (refine wpList_store_row rfl 25 (.tmp 2) (.tmp 9) rfl w.heap.size (two r1.1 r2.1) rfl rfl 25 (two 0 0) hB3 hi rfl hall ?_) | fail)
  go_wp2
  exact bodyPost_ret (results_cell1 Try.results102 _ _ w.heap.size (two r1.1 r2.1) rfl (run_loadVar_row _ _ 25 25 (two r1.1 r2.1) (0, 0) _ hB4 Try.underlying25 rfl hi)) rfl ⟨rfl, HF.out, HFX.out⟩
set_option maxRecDepth 100000 in
set_option maxHeartbeats 1600000 in
theorem rrights2_any (hb : Nat) (ao : Option Addr) (n cap : Nat) (bs : List UInt8) (st : Nat × Bool) (w : World) (hS : RdB w hb ao n cap bs st) (hsm : n ≤ 140737488355328) (hab : ∀ b o, ao = some ⟨b, o, none⟩ → b < w.heap.size) (r1 r2 : Int × Nat × Bool) (h1 : rstep (num 0 1099511627776) 0 bs st = r1) (h2 : rstep (num 0 1099511627776) 0 bs r1.2 = r2) :
    Calls Try.prog 103 #[.pointer (some ⟨hb, 0, none⟩)] w fun e w' => e = .returned (.agg (two r1.1 r2.1)) ∧ RdB w' hb ao n cap bs r2.2 ∧ RX hb w w' := by
  have hlt := hS.blk.lt
  have hb1 : Below w.heap.size w (w.alloc (.cells (two 0 0) 27)) := by go_grown
  have hS1 := hS.keep hb1.block
  have hB1 : Blk (w.alloc (.cells (two 0 0) 27)) w.heap.size (two 0 0) 27 := heap_alloc_new w _
  have hn1 := rnum_any hb ao n cap bs st 0 1099511627776 (by omega) (by omega) _ hS1 hsm
  rw [h1] at hn1
  have H2 : Hid _ := h2
  clear h1 h2 hS
  go_enter Try.func103, Try.ntmps103
  go_wp2_with fail
  rw [two_is]
  generalize (w.alloc (.cells (two 0 0) 27)) = W at *
  refine hn1.mono ?_
  rintro e1 w1 ⟨rfl, hT1, hW1⟩
  have hB2 : Blk w1 w.heap.size (two 0 0) 27 := (hW1.block _ (by omega)).trans hB1
  have hn2 := rnum_any hb ao n cap bs r1.2 0 1099511627776 (by omega) (by omega) _ hT1 hsm
  rw [H2.out] at hn2
  have HX : Hid _ := (RX.up hb1 : RX hb w W).trans (RX.of hW1)
  clear hn1 hS1 hb1 hT1 hW1 hB1
  go_wp2_with fail
  refine hn2.mono ?_
  rintro e2 w2 ⟨rfl, hT2, hW2⟩
  have hB3 : Blk w2 w.heap.size (two 0 0) 27 := (hW2.block _ (by omega)).trans hB2
  have hx := HX.out.trans (RX.of hW2)
  have hfin : RdB (w2.setRow w.heap.size (two r1.1 r2.1)) hb ao n cap bs r2.2 := hT2.row _ _ (by omega) (fun b o e => by have := hab b o e; omega)
  have hfx : RX hb w (w2.setRow w.heap.size (two r1.1 r2.1)) := ⟨hx.os, hx.tape, hx.output, by simpa [World.setRow] using hx.size, fun k h1 h2 => (setRow_other _ _ _ _ (by omega)).trans (hx.block k h1 h2)⟩
  have hB4 := setRow_blk (cs := two r1.1 r2.1) hB3
  have hall : (two r1.1 r2.1).all (·.oneCell') = true := by simp [two, Value.oneCell']
  have HF : Hid _ := hfin
  have HFX : Hid _ := hfx
  clear hn2 hT2 hW2 hx hfin hfx HX hB2
  have hi : (Try.prog.info? 27).map (·.size) = some (two r1.1 r2.1).size := by show _ = some 2; kernel_rfl
  go_wp2_with (first | (refine wpList_store_row rfl 27 (.tmp 2) (.tmp 9) rfl w.heap.size (two r1.1 r2.1) rfl rfl 27 (two 0 0) hB3 hi rfl hall ?_) | fail)
  go_wp2
  exact bodyPost_ret (results_cell1 Try.results103 _ _ w.heap.size (two r1.1 r2.1) rfl (run_loadVar_row _ _ 27 27 (two r1.1 r2.1) (0, 0) _ hB4 Try.underlying27 rfl hi)) rfl ⟨rfl, HF.out, HFX.out⟩
end Go.Proofs.Ytneiomimjgfbpaa
namespace Go.Proofs.Ytneiomimjgfbpaa
open Go.RowKit Go.PlainAid
set_option linter.unusedSimpArgs false
set_option linter.unusedVariables false
theorem leq_runX (s a : List UInt8) (w : World) : (binOp .leq 9 (.string ⟨s.toArray⟩) (.string ⟨a.toArray⟩)).run Try.prog w = .ok (.bool (!gt s a)) w := by
  simp [go_sem, gt]
theorem neq_runX (a : List UInt8) (w : World) : (binOp .neq 9 (.string ⟨a.toArray⟩) (.string ⟨#[]⟩)).run Try.prog w = .ok (.bool (!(a == []))) w := by
  simp [go_sem]
/-- A name is read by the reference's reader. -/
def nstep (ab bs : List UInt8) (st : Nat × Bool) : List UInt8 × (Nat × Bool) :=
  let r1 := rstep (num 1 16) 0 bs st
  let r2 := rstep (some' r1.1.toNat) [] bs r1.2
  bif !r2.2.2 && !(nameB r2.1 && gt r2.1 ab) then (r2.1, (r2.2.1 - r1.1.toNat, true)) else r2
theorem nstep_wrong (ab bs : List UInt8) (p : Nat) : nstep ab bs (p, true) = ([], (p, true)) := by
  simp only [nstep, rstep_wrong]
  rfl
theorem nstep_spec (ab bs : List UInt8) (p : Nat) : match (name ab).rd (bs.drop p) with
    | .error k => (nstep ab bs (p, false)).2 = (p + k, true)
    | .ok (x, k) => nstep ab bs (p, false) = (x, (p + k, false)) := by
  simp only [name, Codec.map, Codec.bind]
  cases h1 : (num 1 16).rd (bs.drop p) with
  | error k =>
    simp only [nstep, rstep_err h1, rstep_wrong]
    rfl
  | ok v1 =>
    obtain ⟨x, k⟩ := v1
    have hx : (1 : Int) ≤ x ∧ x ≤ 16 := by
      simp only [num] at h1
      split at h1
      · cases h1
      · split at h1
        · rename_i hc
          simp only [Except.ok.injEq, Prod.mk.injEq] at h1
          obtain ⟨rfl, rfl⟩ := h1
          simp only [Bool.and_eq_true, decide_eq_true_eq] at hc
          constructor <;> omega
        · cases h1
    simp only [text, Codec.guard]
    rw [drop_add']
    cases h2 : (some' x.toNat).rd (bs.drop (p + k)) with
    | error j =>
      simp only [nstep, rstep_ok h1, rstep_err h2]
      show (p + k + j, true) = (p + (k + j), true)
      rw [Nat.add_assoc]
    | ok v2 =>
      obtain ⟨s, j⟩ := v2
      have hs : s.length = x.toNat ∧ j = x.toNat := by
        simp only [some'] at h2
        split at h2
        · cases h2
        · simp only [Except.ok.injEq, Prod.mk.injEq] at h2
          obtain ⟨rfl, rfl⟩ := h2
          refine ⟨?_, rfl⟩
          rw [List.length_take]
          omega
      have hg : (nameB s && gt s ab) = good ab s := by
        unfold nameB good
        rw [decide_eq_true (by omega : 1 ≤ s.length), decide_eq_true (by omega : s.length ≤ 16)]
        rfl
      simp only [nstep, rstep_ok h1, rstep_ok h2, hg]
      cases hgd : good ab s with
      | false =>
        simp only [Bool.false_eq_true, if_false]
        show ((p + k + j - x.toNat : Nat), true) = (p + (k + 0), true)
        rw [show p + k + j - x.toNat = p + (k + 0) from by omega]
      | true =>
        simp only [if_true]
        show (s, (p + k + j, false)) = (s, (p + (k + j), false))
        rw [Nat.add_assoc]
set_option maxRecDepth 100000 in
set_option maxHeartbeats 3200000 in
theorem rname2_any (hb : Nat) (ao : Option Addr) (n cap : Nat) (bs ab : List UInt8) (st : Nat × Bool) (w : World) (hS : RdB w hb ao n cap bs st) (hsm : n ≤ 140737488355328) (hrm : n ≤ cap) (hnil : ao = none → n = 0 ∧ cap = 0) (hform : ao = none ∨ ∃ b off, ao = some ⟨b, off, none⟩) :
    Calls Try.prog 100 #[.pointer (some ⟨hb, 0, none⟩), Str ab] w fun e w' => e = .returned (Str (nstep ab bs st).1) ∧ RdB w' hb ao n cap bs (nstep ab bs st).2 ∧ RW hb w w' := by
  have hn1 := rnum_any hb ao n cap bs st 1 16 (by omega) (by omega) w hS hsm
  have hrg := rnum_range 1 16 bs st
  have HN : Hid (∀ r1 r2, rstep (num 1 16) 0 bs st = r1 → rstep (some' r1.1.toNat) [] bs r1.2 = r2 → nstep ab bs st = bif !r2.2.2 && !(nameB r2.1 && gt r2.1 ab) then (r2.1, (r2.2.1 - r1.1.toNat, true)) else r2) := by
    intro r1 r2 h1 h2
    subst h1 h2
    rfl
  generalize hns : nstep ab bs st = ns at *
  clear hS hns
  unfold Str
  go_enter Try.func100, Try.ntmps100
  go_wp2_with fail
  refine hn1.mono ?_
  rintro e1 w1 ⟨rfl, hS1, hW1⟩
  replace HN : Hid _ := fun r2 => HN.out _ r2 rfl
  generalize rstep (num 1 16) 0 bs st = r1 at *
  obtain ⟨m, hm⟩ : ∃ m : Nat, r1.1 = (m : Int) := ⟨r1.1.toNat, by omega⟩
  have hm4 : m ≤ 16 := by omega
  have htk := rtake_any hb ao n cap bs r1.2 m (by omega) w1 hS1 hsm hrm hnil hform
  rw [hm] at HN ⊢
  rw [Int.toNat_natCast] at HN
  clear hn1 hrg hS1
  have HM : Hid _ := hm
  clear hm
  go_wp2_with fail
  refine htk.mono ?_
  rintro e2 w2 ⟨⟨ao6, c6, rfl, hf6, hnil6, hsub6⟩, hS2, hW2⟩
  have hx4 : (rstep (some' m) [] bs r1.2).1.length ≤ 4000 := rtake_len m bs r1.2 (by omega)
  have hle2 : (rstep (some' m) [] bs r1.2).2.2 = false → m ≤ (rstep (some' m) [] bs r1.2).2.1 := by
    unfold rstep
    split
    · intro h; rename_i h2; rw [h2] at h; cases h
    · cases h : (some' m).rd (bs.drop r1.2.1) with
      | error k => intro h; cases h
      | ok v =>
        obtain ⟨x, k⟩ := v
        intro _
        simp only [some'] at h
        split at h
        · cases h
        · simp only [Except.ok.injEq, Prod.mk.injEq] at h
          obtain ⟨rfl, rfl⟩ := h
          show m ≤ r1.2.1 + m
          omega
  replace HN : Hid _ := HN.out _ rfl
  generalize rstep (some' m) [] bs r1.2 = r2 at *
  obtain ⟨s, q, wrong⟩ := r2
  simp only at *
  have hcv := conv_run w2 ao6 s.length c6 s rfl hf6
  have hW := hW1.trans hW2
  have d1 : w2.cell? ⟨hb, 1, none⟩ = some (.int .i64 (q : Nat)) := hS2.blk.cell 1
  have d2 : w2.cell? ⟨hb, 2, none⟩ = some (.bool wrong) := hS2.blk.cell 2
  have z1 := hS2.blk.frozen 1
  have z2 := hS2.blk.frozen 2
  have hle := hS2.le
  simp only at hle
  have HS : Hid _ := And.intro hS2 hW
  clear htk hf6 hnil6 hsub6 hS2 hW2 hW1 hW
  cases wrong with
  | true =>
    have hns : ns = (s, q, true) := HN.out
    have HNS : Hid _ := hns
    clear hns HN hle2
    go_wp2
    go_ret
    rw [HNS.out]
    exact ⟨rfl, HS.out.1, HS.out.2⟩
  | false =>
    have hmq := hle2 rfl
    have hnm := rname_any s w2 (by omega)
    cases hok : (nameB s && gt s ab) with
    | true =>
      have hns : ns = (s, q, false) := by rw [HN.out, hok]; rfl
      have HNS : Hid _ := hns
      obtain ⟨k1, k2⟩ := Bool.and_eq_true_iff.1 hok
      rw [k1] at hnm
      have g12 : Op.bytesLess s ab = false ∧ (s == ab) = false := by simpa [gt] using k2
      obtain ⟨g1, g2⟩ := g12
      clear hns HN hle2 hok k1 k2
      unfold Str at hnm
      by_cases hab : ab = []
      all_goals
        go_wp2_with (first | (go_at_call 53; refine hnm.mono ?_; rintro e52 w52 ⟨rfl, rfl⟩) | fail)
        go_ret
        rw [HNS.out]
        exact ⟨rfl, HS.out.1, HS.out.2⟩
    | false =>
      have hns : ns = (s, q - m, true) := by rw [HN.out, hok]; rfl
      have HNS : Hid _ := hns
      have e1 : ((q - m : Nat) : Int) = (q : Int) - (m : Int) := by omega
      have hbad : RdB ((w2.setCell ⟨hb, 1, none⟩ (.int .i64 ((q : Int) - (m : Int)))).setCell ⟨hb, 2, none⟩ (.bool true)) hb ao n cap bs (q - m, true) := by
        refine HS.out.1.turn (st' := (q - m, true)) ?_ (((RW.refl hb w2).set 1 _).set 2 _) (by show q - m ≤ n; omega)
        show Blk _ hb #[.slice ao n cap, .int .i64 ((q - m : Nat) : Int), .bool true] 146
        rw [e1]
        exact Blk.set2 (Blk.set1 HS.out.1.blk ((q : Int) - (m : Int))) true
      have hbadW : RW hb w ((w2.setCell ⟨hb, 1, none⟩ (.int .i64 ((q : Int) - (m : Int)))).setCell ⟨hb, 2, none⟩ (.bool true)) := (HS.out.2.set 1 _).set 2 _
      have HB : Hid _ := hbad
      have HBW : Hid _ := hbadW
      clear hns HN hle2 hbad hbadW e1
      unfold Str at hnm
      cases k1 : nameB s with
      | false =>
        rw [k1] at hnm
        clear hok k1
        go_wp2_with (first | (go_at_call 53; refine hnm.mono ?_; rintro e52 w52 ⟨rfl, rfl⟩) | fail)
        go_ret
        rw [HNS.out]
        exact ⟨rfl, HB.out, HBW.out⟩
      | true =>
        have k2 : gt s ab = false := by rw [k1] at hok; simpa using hok
        have k3 : (ab == []) = false := by
          cases h : (ab == []) with
          | false => rfl
          | true =>
            obtain rfl : ab = [] := by simpa using h
            rw [gt_nil (by unfold nameB at k1; simp only [Bool.and_eq_true, decide_eq_true_eq] at k1; omega)] at k2
            cases k2
        rw [k1] at hnm
        have hab : ab.isEmpty = false := by cases ab with
          | nil => cases k3
          | cons _ _ => rfl
        have g12 : (Op.bytesLess s ab || s == ab) = true := by
          unfold gt at k2
          cases h : (Op.bytesLess s ab || s == ab) with
          | true => rfl
          | false => rw [h] at k2; cases k2
        clear hok k1 k2 k3
        cases g1 : Op.bytesLess s ab with
        | true =>
          clear g12
          go_wp2_with (first | (go_at_call 53; refine hnm.mono ?_; rintro e52 w52 ⟨rfl, rfl⟩) | fail)
          go_ret
          rw [HNS.out]
          exact ⟨rfl, HB.out, HBW.out⟩
        | false =>
          have g2 : (s == ab) = true := by rw [g1] at g12; simpa using g12
          clear g12
          go_wp2_with (first | (go_at_call 53; refine hnm.mono ?_; rintro e52 w52 ⟨rfl, rfl⟩) | fail)
          go_ret
          rw [HNS.out]
          exact ⟨rfl, HB.out, HBW.out⟩
end Go.Proofs.Ytneiomimjgfbpaa
namespace Go.Proofs.Ytneiomimjgfbpaa
open Go.RowKit Go.PlainAid
set_option linter.unusedSimpArgs false
set_option linter.unusedVariables false
/-- The reader's box, a box under work and the result's box. -/
structure DX (w : World) (hb : Nat) (ao : Option Addr) (n cap : Nat) (bs : List UInt8) (st : Nat × Bool) (Z C : Array Value) (ty : TypeId) (W : World) : Prop where
  rd : RdB W hb ao n cap bs st
  blk : Blk W (w.heap.size + 1) C ty
  res : Blk W w.heap.size Z ty
  rx : RX hb w W
section
variable {w W W' : World} {hb : Nat} {ao : Option Addr} {n cap : Nat} {bs : List UInt8} {st st' : Nat × Bool} {Z C : Array Value} {ty : TypeId}
theorem DX.rw (h : DX w hb ao n cap bs st Z C ty W) (hlt : hb < w.heap.size) (hR : RdB W' hb ao n cap bs st') (hw : RX hb W W') : DX w hb ao n cap bs st' Z C ty W' :=
  ⟨hR, (hw.block _ h.blk.lt (by omega)).trans h.blk, (hw.block _ h.res.lt (by omega)).trans h.res, h.rx.trans hw⟩
theorem DX.set (h : DX w hb ao n cap bs st Z C ty W) (hlt : hb < w.heap.size) (hab : ∀ b o, ao = some ⟨b, o, none⟩ → b < w.heap.size) (j : Nat) (v : Value) : DX w hb ao n cap bs st Z (C.setIfInBounds j v) ty (W.setCell ⟨w.heap.size + 1, j, none⟩ v) := by
  have hk : ∀ k, k ≠ w.heap.size + 1 → (W.setCell ⟨w.heap.size + 1, j, none⟩ v).heap[k]? = W.heap[k]? := fun k hk => Below.heap_setCell _ _ _ _ hk
  refine ⟨⟨(hk _ (by omega)).trans h.rd.blk, h.rd.len, fun h0 => ?_, h.rd.le⟩, Blk.set h.blk j v, (hk _ (by omega)).trans h.res, ⟨h.rx.os, h.rx.tape, h.rx.output, by simpa [World.setCell] using h.rx.size, fun k h1 h2 => (hk k (by omega)).trans (h.rx.block k h1 h2)⟩⟩
  obtain ⟨b, off, e, hc⟩ := h.rd.src h0
  have := hab b off e
  exact ⟨b, off, e, fun i u hu => (World.cell?_of_block (w := W) (hk b (by omega))).trans (hc i u hu)⟩
end
/-- An operation is read by the reference's reader. -/
def ostep (bs : List UInt8) (st : Nat × Bool) : (Int × List UInt8 × Int × Int) × (Nat × Bool) :=
  let r1 := rstep (num 1 11) 0 bs st
  let r2 := nstep [] bs r1.2
  let r3 := rstep signed 0 bs r2.2
  let r4 := rstep signed 0 bs r3.2
  ((r1.1, r2.1, r3.1, r4.1), r4.2)
set_option maxRecDepth 100000 in
set_option maxHeartbeats 3200000 in
theorem rop2_any (hb : Nat) (ao : Option Addr) (n cap : Nat) (bs : List UInt8) (st : Nat × Bool) (w : World) (hS : RdB w hb ao n cap bs st) (hsm : n ≤ 140737488355328) (hrm : n ≤ cap) (hnil : ao = none → n = 0 ∧ cap = 0) (hform : ao = none ∨ ∃ b off, ao = some ⟨b, off, none⟩) (hab : ∀ b o, ao = some ⟨b, o, none⟩ → b < w.heap.size) :
    Calls Try.prog 92 #[.pointer (some ⟨hb, 0, none⟩)] w fun e w' => e = .returned (.agg (opCells (ostep bs st).1)) ∧ RdB w' hb ao n cap bs (ostep bs st).2 ∧ RX hb w w' := by
  have hlt := hS.blk.lt
  have hb1 : Below w.heap.size w (w.alloc (.cells #[.int .i64 0, .string ⟨#[]⟩, .int .i64 0, .int .i64 0] 31)) := by go_grown
  have hS1 := hS.keep hb1.block
  have hB1 : Blk (w.alloc (.cells #[.int .i64 0, .string ⟨#[]⟩, .int .i64 0, .int .i64 0] 31)) w.heap.size #[.int .i64 0, .string ⟨#[]⟩, .int .i64 0, .int .i64 0] 31 := heap_alloc_new w _
  have hn1 := rnum_any hb ao n cap bs st 1 11 (by omega) (by omega) _ hS1 hsm
  have HN : Hid (∀ r1 r2 r3 r4, rstep (num 1 11) 0 bs st = r1 → nstep [] bs r1.2 = r2 → rstep signed 0 bs r2.2 = r3 → rstep signed 0 bs r3.2 = r4 → ostep bs st = ((r1.1, r2.1, r3.1, r4.1), r4.2)) := by
    intro r1 r2 r3 r4 h1 h2 h3 h4
    subst h1 h2 h3 h4
    rfl
  generalize hos : ostep bs st = os at *
  clear hS hos
  have hsz1 : (w.alloc (.cells #[.int .i64 0, .string ⟨#[]⟩, .int .i64 0, .int .i64 0] 31)).heap.size = w.heap.size + 1 := by simp
  go_enter Try.func92, Try.ntmps92
  go_wp2_with fail
  generalize (w.alloc (.cells #[.int .i64 0, .string ⟨#[]⟩, .int .i64 0, .int .i64 0] 31)) = W at *
  refine hn1.mono ?_
  rintro e1 w1 ⟨rfl, hT1, hW1⟩
  replace HN : Hid _ := fun r2 r3 r4 => HN.out _ r2 r3 r4 rfl
  generalize rstep (num 1 11) 0 bs st = r1 at *
  have hsw1 : w1.heap.size = w.heap.size + 1 := hW1.size.trans hsz1
  have D1 : DX w hb ao n cap bs r1.2 #[.int .i64 0, .string ⟨#[]⟩, .int .i64 0, .int .i64 0] #[.int .i64 r1.1, .string ⟨#[]⟩, .int .i64 0, .int .i64 0] 31 (w1.alloc (.cells #[.int .i64 r1.1, .string ⟨#[]⟩, .int .i64 0, .int .i64 0] 31)) := by
    have hb2 : Below w1.heap.size w1 (w1.alloc (.cells #[.int .i64 r1.1, .string ⟨#[]⟩, .int .i64 0, .int .i64 0] 31)) := by go_grown
    refine ⟨hT1.keep hb2.block, ?_, (hb2.block _ (by omega)).trans ((hW1.block _ (by omega)).trans hB1), ((RX.up hb1 : RX hb w W).trans (RX.of hW1)).trans (RX.up hb2)⟩
    rw [← hsw1]
    exact heap_alloc_new _ _
  clear hn1 hS1 hb1 hT1 hW1 hB1
  go_wp2_with fail
  generalize (w1.alloc (.cells #[.int .i64 r1.1, .string ⟨#[]⟩, .int .i64 0, .int .i64 0] 31)) = W1 at *
  have hn2 := rname2_any hb ao n cap bs [] r1.2 W1 D1.rd hsm hrm hnil hform
  refine (show Calls Try.prog 100 #[_, .string ⟨#[]⟩] W1 _ from hn2).mono ?_
  rintro e2 w2 ⟨rfl, hT2, hW2⟩
  replace HN : Hid _ := fun r3 r4 => HN.out _ r3 r4 rfl
  generalize nstep [] bs r1.2 = r2 at *
  have D2 := D1.rw hlt hT2 (RX.of hW2)
  clear D1 hT2 hW2 hn2
  unfold Str
  have c2 : w2.cell? ⟨w.heap.size + 1, 1, none⟩ = some (.string ⟨#[]⟩) := D2.blk.cell 1
  have z2 := D2.blk.frozen 1
  have E2 : DX w hb ao n cap bs r2.2 #[.int .i64 0, .string ⟨#[]⟩, .int .i64 0, .int .i64 0] #[.int .i64 r1.1, .string ⟨r2.1.toArray⟩, .int .i64 0, .int .i64 0] 31 (w2.setCell ⟨w.heap.size + 1, 1, none⟩ (.string ⟨r2.1.toArray⟩)) := D2.set hlt hab 1 _
  clear D2
  go_wp2_with fail
  generalize (w2.setCell ⟨w.heap.size + 1, 1, none⟩ (.string ⟨r2.1.toArray⟩)) = W2 at *
  clear c2 z2
  have hn3 := rsign_any hb ao n cap bs r2.2 W2 E2.rd hsm
  refine hn3.mono ?_
  rintro e3 w3 ⟨rfl, hT3, hW3⟩
  replace HN : Hid _ := fun r4 => HN.out _ r4 rfl
  generalize rstep signed 0 bs r2.2 = r3 at *
  have D3 := E2.rw hlt hT3 (RX.of hW3)
  clear E2 hT3 hW3 hn3
  have c3 : w3.cell? ⟨w.heap.size + 1, 2, none⟩ = some (.int .i64 0) := D3.blk.cell 2
  have z3 := D3.blk.frozen 2
  have E3 : DX w hb ao n cap bs r3.2 #[.int .i64 0, .string ⟨#[]⟩, .int .i64 0, .int .i64 0] #[.int .i64 r1.1, .string ⟨r2.1.toArray⟩, .int .i64 r3.1, .int .i64 0] 31 (w3.setCell ⟨w.heap.size + 1, 2, none⟩ (.int .i64 r3.1)) := D3.set hlt hab 2 _
  clear D3
  go_wp2_with fail
  generalize (w3.setCell ⟨w.heap.size + 1, 2, none⟩ (.int .i64 r3.1)) = W3 at *
  clear c3 z3
  have hn4 := rsign_any hb ao n cap bs r3.2 W3 E3.rd hsm
  refine hn4.mono ?_
  rintro e4 w4 ⟨rfl, hT4, hW4⟩
  replace HN : Hid _ := HN.out _ rfl
  generalize rstep signed 0 bs r3.2 = r4 at *
  have D4 := E3.rw hlt hT4 (RX.of hW4)
  clear E3 hT4 hW4 hn4
  have c4 : w4.cell? ⟨w.heap.size + 1, 3, none⟩ = some (.int .i64 0) := D4.blk.cell 3
  have z4 := D4.blk.frozen 3
  have E4 : DX w hb ao n cap bs r4.2 #[.int .i64 0, .string ⟨#[]⟩, .int .i64 0, .int .i64 0] #[.int .i64 r1.1, .string ⟨r2.1.toArray⟩, .int .i64 r3.1, .int .i64 r4.1] 31 (w4.setCell ⟨w.heap.size + 1, 3, none⟩ (.int .i64 r4.1)) := D4.set hlt hab 3 _
  clear D4
  have hall : (opCells (r1.1, r2.1, r3.1, r4.1)).all (·.oneCell') = true := by simp [opCells, Str, Value.oneCell']
  have hB0 : Blk (w4.setCell ⟨w.heap.size + 1, 3, none⟩ (.int .i64 r4.1)) w.heap.size #[.int .i64 0, .string ⟨#[]⟩, .int .i64 0, .int .i64 0] 31 := E4.res
  have hM : Blk (w4.setCell ⟨w.heap.size + 1, 3, none⟩ (.int .i64 r4.1)) (w.heap.size + 1) (opCells (r1.1, r2.1, r3.1, r4.1)) 31 := E4.blk
  have hB4 := setRow_blk (cs := opCells (r1.1, r2.1, r3.1, r4.1)) hB0
  have hfin : RdB ((w4.setCell ⟨w.heap.size + 1, 3, none⟩ (.int .i64 r4.1)).setRow w.heap.size (opCells (r1.1, r2.1, r3.1, r4.1))) hb ao n cap bs r4.2 := E4.rd.row _ _ (by omega) (fun b o e => by have := hab b o e; omega)
  have hfx : RX hb w ((w4.setCell ⟨w.heap.size + 1, 3, none⟩ (.int .i64 r4.1)).setRow w.heap.size (opCells (r1.1, r2.1, r3.1, r4.1))) := ⟨E4.rx.os, E4.rx.tape, E4.rx.output, by simpa [World.setRow] using E4.rx.size, fun k h1 h2 => (setRow_other _ _ _ _ (by omega)).trans (E4.rx.block k h1 h2)⟩
  have HF : Hid _ := hfin
  have HFX : Hid _ := hfx
  clear hfin hfx E4
  generalize hD : opCells (r1.1, r2.1, r3.1, r4.1) = D at *
  have hszD : D.size = 4 := by rw [← hD]; rfl
  have hi : (Try.prog.info? 31).map (·.size) = some D.size := by rw [hszD]; kernel_rfl
  have HD : Hid _ := hD
  clear hD
  go_wp2_with (first | (refine wpList_load_row rfl 31 (.tmp 3) rfl (w.heap.size + 1) rfl 31 D (0, 0) _ hM Try.underlying31 rfl hi ?_) | (refine wpList_store_row rfl 31 (.tmp 2) (.tmp 16) rfl w.heap.size D rfl rfl 31 #[.int .i64 0, .string ⟨#[]⟩, .int .i64 0, .int .i64 0] hB0 hi (by rw [hszD]; rfl) hall ?_) | fail)
  go_wp2
  refine bodyPost_ret (results_cell1 Try.results92 _ _ w.heap.size D rfl (run_loadVar_row _ _ 31 31 D (0, 0) _ hB4 Try.underlying31 rfl hi)) rfl ?_
  rw [HN.out]
  exact ⟨by rw [HD.out], HF.out, HFX.out⟩
end Go.Proofs.Ytneiomimjgfbpaa
namespace Go.Proofs.Ytneiomimjgfbpaa
set_option linter.unusedSimpArgs false
set_option linter.unusedVariables false
/-- A reader of the reference follows a codec: where it is wrong already nothing moves; else it reads what the codec reads, or is wrong at the codec's place. -/
structure Follows {α : Type} (c : Codec α) (bs : List UInt8) (f : Nat × Bool → α × (Nat × Bool)) : Prop where
  wrong : ∀ p, (f (p, true)).2 = (p, true)
  bad : ∀ p k, c.rd (bs.drop p) = .error k → (f (p, false)).2 = (p + k, true)
  good : ∀ p x k, c.rd (bs.drop p) = .ok (x, k) → f (p, false) = (x, (p + k, false))
theorem Follows.step {α : Type} (c : Codec α) (z : α) (bs : List UInt8) : Follows c bs (rstep c z bs) :=
  ⟨fun p => rfl, fun p k h => by rw [rstep_err h], fun p x k h => by rw [rstep_ok h]⟩
theorem Follows.name (ab bs : List UInt8) : Follows (name ab) bs (nstep ab bs) :=
  ⟨fun p => by rw [nstep_wrong], fun p k h => by have := nstep_spec ab bs p; rw [h] at this; exact this, fun p x k h => by have := nstep_spec ab bs p; rw [h] at this; exact this⟩
theorem Follows.bind {α β : Type} {c : Codec α} {d : α → Codec β} {bs : List UInt8} {f : Nat × Bool → α × (Nat × Bool)} {g : α → Nat × Bool → β × (Nat × Bool)} (hf : Follows c bs f) (hg : ∀ a, Follows (d a) bs (g a)) :
    Follows (c.bind d) bs (fun st => (((f st).1, (g (f st).1 (f st).2).1), (g (f st).1 (f st).2).2)) := by
  refine ⟨fun p => ?_, fun p k h => ?_, fun p x k h => ?_⟩
  · show (g _ (f (p, true)).2).2 = _
    rw [hf.wrong]
    exact (hg _).wrong p
  · simp only [Codec.bind] at h
    cases h1 : c.rd (bs.drop p) with
    | error j =>
      rw [h1] at h
      cases h
      show (g _ (f (p, false)).2).2 = _
      rw [hf.bad p _ h1]
      exact (hg _).wrong _
    | ok v =>
      obtain ⟨a, j⟩ := v
      rw [h1] at h
      simp only at h
      rw [drop_add'] at h
      cases h2 : (d a).rd (bs.drop (p + j)) with
      | error i =>
        rw [h2] at h
        cases h
        show (g (f (p, false)).1 (f (p, false)).2).2 = _
        rw [hf.good p _ _ h1]
        show (g a (p + j, false)).2 = _
        rw [(hg a).bad _ _ h2, Nat.add_assoc]
      | ok v2 =>
        rw [h2] at h
        cases h
  · simp only [Codec.bind] at h
    cases h1 : c.rd (bs.drop p) with
    | error j => rw [h1] at h; cases h
    | ok v =>
      obtain ⟨a, j⟩ := v
      rw [h1] at h
      simp only at h
      rw [drop_add'] at h
      cases h2 : (d a).rd (bs.drop (p + j)) with
      | error i => rw [h2] at h; cases h
      | ok v2 =>
        obtain ⟨b, i⟩ := v2
        rw [h2] at h
        cases h
        show (((f (p, false)).1, (g (f (p, false)).1 (f (p, false)).2).1), (g (f (p, false)).1 (f (p, false)).2).2) = _
        rw [hf.good p _ _ h1]
        show ((a, (g a (p + j, false)).1), (g a (p + j, false)).2) = _
        rw [(hg a).good _ _ _ h2, Nat.add_assoc]
theorem Follows.pair {α β : Type} {c : Codec α} {d : Codec β} {bs : List UInt8} {f : Nat × Bool → α × (Nat × Bool)} {g : Nat × Bool → β × (Nat × Bool)} (hf : Follows c bs f) (hg : Follows d bs g) :
    Follows (pair c d) bs (fun st => (((f st).1, (g (f st).2).1), (g (f st).2).2)) := hf.bind (g := fun _ => g) fun _ => hg
theorem Follows.map {α β : Type} {c : Codec α} {bs : List UInt8} {f : Nat × Bool → α × (Nat × Bool)} (hf : Follows c bs f) (u : α → β) (v : β → α) (ok : β → Bool) : Follows (c.map u v ok) bs (fun st => (u (f st).1, (f st).2)) := by
  refine ⟨fun p => hf.wrong p, fun p k h => ?_, fun p x k h => ?_⟩
  · simp only [Codec.map] at h
    cases h1 : c.rd (bs.drop p) with
    | error j => rw [h1] at h; cases h; exact hf.bad p _ h1
    | ok v => rw [h1] at h; cases h
  · simp only [Codec.map] at h
    cases h1 : c.rd (bs.drop p) with
    | error j => rw [h1] at h; cases h
    | ok v =>
      obtain ⟨a, j⟩ := v
      rw [h1] at h
      cases h
      show (u (f (p, false)).1, (f (p, false)).2) = _
      rw [hf.good p _ _ h1]
/-- A view. -/
def vstep (bs ab : List UInt8) (st : Nat × Bool) : View × (Nat × Bool) :=
  let r1 := nstep ab bs st
  let r2 := rstep (num 1 maxN) 0 bs r1.2
  let r3 := rstep (num 0 maxN) 0 bs r2.2
  let r4 := rstep (num 0 maxN) 0 bs r3.2
  let r5 := rstep (num 0 maxN) 0 bs r4.2
  let r6 := rstep (num 0 maxN) 0 bs r5.2
  let r7 := rstep (num 0 maxN) 0 bs r6.2
  (⟨r1.1, r2.1, r3.1, r4.1, r5.1, r6.1, r7.1⟩, r7.2)
theorem Follows.view (bs ab : List UInt8) : Follows (view ab) bs (vstep bs ab) :=
  ((Follows.name ab bs).pair (((Follows.step (num 1 maxN) 0 bs).pair (Follows.step (num 0 maxN) 0 bs)).pair ((Follows.step (num 0 maxN) 0 bs).pair (((Follows.step (num 0 maxN) 0 bs).pair (Follows.step (num 0 maxN) 0 bs)).pair (Follows.step (num 0 maxN) 0 bs))))).map _ _ _
/-- So many views. -/
def vlist (bs : List UInt8) : Nat → List UInt8 → Nat × Bool → List View × (Nat × Bool)
  | 0, _, st => ([], st)
  | n + 1, ab, st => ((vstep bs ab st).1 :: (vlist bs n (vstep bs ab st).1.name (vstep bs ab st).2).1, (vlist bs n (vstep bs ab st).1.name (vstep bs ab st).2).2)
theorem Follows.vlist (bs : List UInt8) : ∀ (n : Nat) (ab : List UInt8), Follows (viewList n ab) bs (vlist bs n ab)
  | 0, ab => ⟨fun p => rfl, (fun p k h => by simp [viewList, Codec.map, Codec.unit] at h), (fun p x k h => by simp [viewList, Codec.map, Codec.unit] at h; obtain ⟨rfl, rfl⟩ := h; rfl)⟩
  | n + 1, ab => ((Follows.view bs ab).bind fun v => Follows.vlist bs n v.name).map _ _ _
def vsteps (bs : List UInt8) (st : Nat × Bool) : List View × (Nat × Bool) := vlist bs (rstep (num 0 64) 0 bs st).1.toNat [] (rstep (num 0 64) 0 bs st).2
theorem Follows.views (bs : List UInt8) : Follows views bs (vsteps bs) := ((Follows.step (num 0 64) 0 bs).bind fun n => Follows.vlist bs n.toNat []).map _ _ _
theorem Follows.op (bs : List UInt8) : Follows (op) bs (ostep bs) :=
  ((Follows.step (num 1 11) 0 bs).pair ((Follows.name [] bs).pair ((Follows.step signed 0 bs).pair (Follows.step signed 0 bs))))
end Go.Proofs.Ytneiomimjgfbpaa
namespace Go.Proofs.Ytneiomimjgfbpaa
open Go.RowKit Go.PlainAid
set_option linter.unusedSimpArgs false
set_option linter.unusedVariables false
def rowV (l : List View) : List Value := l.flatMap viewCells
theorem rowV_len (l : List View) : (rowV l).length = l.length * 7 := by
  induction l with
  | nil => rfl
  | cons a t ih => simp only [rowV, List.flatMap_cons, List.length_append] at *; rw [ih]; simp [viewCells]; omega
theorem rowV_snoc (l : List View) (v : View) : rowV (l ++ [v]) = rowV l ++ viewCells v := by simp [rowV]
theorem own_stableG {w w' : World} {base e size : Nat} {v : Value} {n : Nat} {xs : List Value} (h : w.ownsRow base e size v n xs) (hk : ∀ k, base ≤ k → k < w.heap.size → w'.heap[k]? = w.heap[k]?) : w'.ownsRow base e size v n xs := by
  refine ⟨h.1, h.2.imp id ?_⟩
  rintro ⟨g, c', cur, e1, e2, e3, e4⟩
  exact ⟨g, c', cur, e1, e2, (hk g e2 (Array.getElem?_eq_some_iff.1 e3).1).trans e3, e4⟩
/-- The reader's box, a view's box, and the list that grows. -/
structure DV (w : World) (hb : Nat) (ao : Option Addr) (n cap : Nat) (bs : List UInt8) (st : Nat × Bool) (bx : Nat) (C : Array Value) (lv : Value) (l : List View) (W : World) : Prop where
  rd : RdB W hb ao n cap bs st
  blk : Blk W bx C 106
  own : W.ownsRow w.heap.size 106 7 lv l.length (rowV l)
  rx : RX hb w W
section
variable {w W W' : World} {hb bx : Nat} {ao : Option Addr} {n cap : Nat} {bs : List UInt8} {st st' : Nat × Bool} {C : Array Value} {lv : Value} {l : List View}
theorem DV.rw (h : DV w hb ao n cap bs st bx C lv l W) (hlt : hb < w.heap.size) (hbx : w.heap.size ≤ bx) (hR : RdB W' hb ao n cap bs st') (hw : RX hb W W') : DV w hb ao n cap bs st' bx C lv l W' :=
  ⟨hR, (hw.block _ h.blk.lt (by omega)).trans h.blk, own_stableG h.own fun k h1 h2 => hw.block k h2 (by omega), h.rx.trans hw⟩
theorem DV.set (h : DV w hb ao n cap bs st bx C lv l W) (hlt : hb < w.heap.size) (hbx : w.heap.size ≤ bx) (hab : ∀ b o, ao = some ⟨b, o, none⟩ → b < w.heap.size) (hne : lv.ownBlock ≠ some bx) (j : Nat) (v : Value) : DV w hb ao n cap bs st bx (C.setIfInBounds j v) lv l (W.setCell ⟨bx, j, none⟩ v) := by
  have hk : ∀ k, k ≠ bx → (W.setCell ⟨bx, j, none⟩ v).heap[k]? = W.heap[k]? := fun k hk => Below.heap_setCell _ _ _ _ hk
  refine ⟨⟨(hk _ (by omega)).trans h.rd.blk, h.rd.len, fun h0 => ?_, h.rd.le⟩, Blk.set h.blk j v, ownsRow_setCell_other h.own hne v, ⟨h.rx.os, h.rx.tape, h.rx.output, by simpa [World.setCell] using h.rx.size, fun k h1 h2 => (hk k (by omega)).trans (h.rx.block k h1 h2)⟩⟩
  obtain ⟨b, off, e, hc⟩ := h.rd.src h0
  have := hab b off e
  exact ⟨b, off, e, fun i u hu => (World.cell?_of_block (w := W) (hk b (by omega))).trans (hc i u hu)⟩
end
/-- What 'views' answers. -/
def ViewsAns (w : World) (r : List View × (Nat × Bool)) (e : Ending) (w' : World) : Prop := ∃ lv l, e = .returned lv ∧ w'.ownsRow w.heap.size 106 7 lv l.length (rowV l) ∧ l.length ≤ 64 ∧ (r.2.2 = false → l = r.1)
set_option maxRecDepth 100000 in
set_option maxHeartbeats 3200000 in
theorem rviews2_any (hb : Nat) (ao : Option Addr) (n cap : Nat) (bs : List UInt8) (st : Nat × Bool) (w : World) (hS : RdB w hb ao n cap bs st) (hsm : n ≤ 140737488355328) (hrm : n ≤ cap) (hnil : ao = none → n = 0 ∧ cap = 0) (hform : ao = none ∨ ∃ b off, ao = some ⟨b, off, none⟩) (hab : ∀ b o, ao = some ⟨b, o, none⟩ → b < w.heap.size) :
    Calls Try.prog 101 #[.pointer (some ⟨hb, 0, none⟩)] w fun e w' => ViewsAns w (vsteps bs st) e w' ∧ RdB w' hb ao n cap bs (vsteps bs st).2 ∧ RX hb w w' := by
  have hlt := hS.blk.lt
  have hn1 := rnum_any hb ao n cap bs st 0 64 (by omega) (by omega) _ hS hsm
  have hrg := rnum_range 0 64 bs st
  have HV : Hid (vsteps bs st = vlist bs (rstep (num 0 64) 0 bs st).1.toNat [] (rstep (num 0 64) 0 bs st).2) := rfl
  generalize vsteps bs st = VT at *
  clear hS
  go_enter Try.func101, Try.ntmps101
  go_wp2_with fail
  refine hn1.mono ?_
  rintro e1 w1 ⟨rfl, hT1, hW1⟩
  generalize rstep (num 0 64) 0 bs st = r0 at *
  obtain ⟨m, hm⟩ : ∃ m : Nat, r0.1 = (m : Int) := ⟨r0.1.toNat, by omega⟩
  have hm4 : m ≤ 64 := by omega
  rw [hm] at HV ⊢
  rw [Int.toNat_natCast] at HV
  clear hn1 hrg hm
  have HT : Hid _ := And.intro hT1 (RX.of hW1)
  clear hT1 hW1
  go_wp2_with fail
  go_loopw [3, 4, 5] (fun lv av nv wr => ∃ (k : Nat) (ab : List UInt8) (l : List View) (s : Nat × Bool), nv = .int .i64 (k : Nat) ∧ l.length + k ≤ 64 ∧ av = .string ⟨ab.toArray⟩ ∧ RdB wr hb ao n cap bs s ∧ RX hb w wr ∧ wr.ownsRow w.heap.size 106 7 lv l.length (rowV l) ∧ VT = (l ++ (vlist bs k ab s).1, (vlist bs k ab s).2)) (fun _ _ nv _ => (intOf nv).toNat)
  case atStart => exact ⟨m, [], [], r0.2, rfl, by simpa using hm4, rfl, HT.out.1, HT.out.2, World.ownsRow_nil _ _ _ _, by rw [HV.out]; rfl⟩
  case round =>
    obtain ⟨k, ab, l, s, rfl, hkl, rfl, hR, hX, hO, hVT⟩ := hrel
    obtain ⟨q, wrong⟩ := s
    have c2 : wr.cell? ⟨hb, 2, none⟩ = some (.bool wrong) := hR.blk.cell 2
    have HVT : Hid _ := hVT
    have HRX : Hid _ := And.intro hR (And.intro hX hO)
    clear hR hX hO hVT
    by_cases hk : k = 0
    · subst hk
      go_wp2
      go_ret
      rw [HVT.out]
      exact ⟨⟨_, l, rfl, HRX.out.2.2, by omega, fun _ => by simp [vlist]⟩, HRX.out.1, HRX.out.2.1⟩
    · have hk' : (0 : Int) < (k : Int) := by omega
      cases wrong with
      | true =>
        have hst : VT.2 = (q, true) := by rw [HVT.out]; exact (Follows.vlist bs k ab).wrong q
        have HST : Hid _ := hst
        clear hst
        go_wp2
        go_ret
        refine ⟨⟨_, l, rfl, HRX.out.2.2, by omega, fun h => ?_⟩, ?_, HRX.out.2.1⟩
        · rw [HST.out] at h
          cases h
        · rw [HST.out]
          exact HRX.out.1
      | false =>
        --BODY
        have HN : Hid (∀ r1 r2 r3 r4 r5 r6 r7, nstep ab bs (q, false) = r1 → rstep (num 1 maxN) 0 bs r1.2 = r2 → rstep (num 0 maxN) 0 bs r2.2 = r3 → rstep (num 0 maxN) 0 bs r3.2 = r4 → rstep (num 0 maxN) 0 bs r4.2 = r5 → rstep (num 0 maxN) 0 bs r5.2 = r6 → rstep (num 0 maxN) 0 bs r6.2 = r7 → vstep bs ab (q, false) = (⟨r1.1, r2.1, r3.1, r4.1, r5.1, r6.1, r7.1⟩, r7.2)) := by
          intro r1 r2 r3 r4 r5 r6 r7 h1 h2 h3 h4 h5 h6 h7
          subst h1 h2 h3 h4 h5 h6 h7
          rfl
        simp only [show maxN = 1099511627776 from rfl] at HN
        go_wp2_with fail
        have hn1 := rname2_any hb ao n cap bs ab (q, false) wr HRX.out.1 hsm hrm hnil hform
        unfold Str at hn1
        refine hn1.mono ?_
        rintro e1 w2 ⟨rfl, hT1, hW1⟩
        replace HN : Hid _ := fun r2 r3 r4 r5 r6 r7 => HN.out _ r2 r3 r4 r5 r6 r7 rfl
        generalize nstep ab bs (q, false) = r1 at *
        have hrxz := HRX.out.2.1.size
        have hw2z := hW1.size
        have hne : u3.ownBlock ≠ some w2.heap.size := by
          intro he
          have := (HRX.out.2.2.lt _ he).2
          omega
        have hbx : w.heap.size ≤ w2.heap.size := by omega
        have D1 : DV w hb ao n cap bs r1.2 w2.heap.size #[.string ⟨r1.1.toArray⟩, .int .i64 0, .int .i64 0, .int .i64 0, .int .i64 0, .int .i64 0, .int .i64 0] u3 l (w2.alloc (.cells #[.string ⟨r1.1.toArray⟩, .int .i64 0, .int .i64 0, .int .i64 0, .int .i64 0, .int .i64 0, .int .i64 0] 106)) := by
          have hb2 : Below w2.heap.size w2 (w2.alloc (.cells #[.string ⟨r1.1.toArray⟩, .int .i64 0, .int .i64 0, .int .i64 0, .int .i64 0, .int .i64 0, .int .i64 0] 106)) := by go_grown
          refine ⟨hT1.keep hb2.block, heap_alloc_new w2 _, own_stableG (own_stableG HRX.out.2.2 fun j h1 h2 => hW1.block j (by omega)) fun j h1 h2 => hb2.block j h2, (HRX.out.2.1.trans (RX.of hW1)).trans (RX.up hb2)⟩
        have HD : Hid _ := And.intro D1 (And.intro hne hbx)
        clear hn1 hT1 hW1 D1 hne hbx hrxz hw2z c2
        go_wp2_with fail
        obtain ⟨D1, hne, hbx⟩ := HD.out
        generalize (w2.alloc (.cells #[.string ⟨r1.1.toArray⟩, .int .i64 0, .int .i64 0, .int .i64 0, .int .i64 0, .int .i64 0, .int .i64 0] 106)) = W1 at *
        generalize w2.heap.size = bx at *
        have hnr2 := rnum_any hb ao n cap bs r1.2 1 1099511627776 (by omega) (by omega) _ D1.rd hsm
        refine hnr2.mono ?_
        rintro er2 x2 ⟨rfl, hSr2, hWr2⟩
        replace HN : Hid _ := fun r3 r4 r5 r6 r7 => HN.out _ r3 r4 r5 r6 r7 rfl
        generalize rstep (num 1 1099511627776) 0 bs r1.2 = r2 at *
        have Dr2 := D1.rw hlt hbx hSr2 (RX.of hWr2)
        clear D1 hSr2 hWr2 hnr2
        have cr2 : x2.cell? ⟨bx, 1, none⟩ = some (.int .i64 0) := Dr2.blk.cell 1
        have zr2 := Dr2.blk.frozen 1
        have Er2 : DV w hb ao n cap bs r2.2 bx #[.string ⟨r1.1.toArray⟩, .int .i64 r2.1, .int .i64 0, .int .i64 0, .int .i64 0, .int .i64 0, .int .i64 0] u3 l (x2.setCell ⟨bx, 1, none⟩ (.int .i64 r2.1)) := Dr2.set hlt hbx hab hne 1 _
        clear Dr2
        have HD : Hid _ := And.intro Er2 (And.intro hne hbx)
        clear Er2 hne hbx
        go_wp2_with fail
        obtain ⟨Er2, hne, hbx⟩ := HD.out
        generalize (x2.setCell ⟨bx, 1, none⟩ (.int .i64 r2.1)) = W2 at *
        clear cr2 zr2
        have hnr3 := rnum_any hb ao n cap bs r2.2 0 1099511627776 (by omega) (by omega) _ Er2.rd hsm
        refine hnr3.mono ?_
        rintro er3 x3 ⟨rfl, hSr3, hWr3⟩
        replace HN : Hid _ := fun r4 r5 r6 r7 => HN.out _ r4 r5 r6 r7 rfl
        generalize rstep (num 0 1099511627776) 0 bs r2.2 = r3 at *
        have Dr3 := Er2.rw hlt hbx hSr3 (RX.of hWr3)
        clear Er2 hSr3 hWr3 hnr3
        have cr3 : x3.cell? ⟨bx, 2, none⟩ = some (.int .i64 0) := Dr3.blk.cell 2
        have zr3 := Dr3.blk.frozen 2
        have Er3 : DV w hb ao n cap bs r3.2 bx #[.string ⟨r1.1.toArray⟩, .int .i64 r2.1, .int .i64 r3.1, .int .i64 0, .int .i64 0, .int .i64 0, .int .i64 0] u3 l (x3.setCell ⟨bx, 2, none⟩ (.int .i64 r3.1)) := Dr3.set hlt hbx hab hne 2 _
        clear Dr3
        have HD : Hid _ := And.intro Er3 (And.intro hne hbx)
        clear Er3 hne hbx
        go_wp2_with fail
        obtain ⟨Er3, hne, hbx⟩ := HD.out
        generalize (x3.setCell ⟨bx, 2, none⟩ (.int .i64 r3.1)) = W3 at *
        clear cr3 zr3
        have hnr4 := rnum_any hb ao n cap bs r3.2 0 1099511627776 (by omega) (by omega) _ Er3.rd hsm
        refine hnr4.mono ?_
        rintro er4 x4 ⟨rfl, hSr4, hWr4⟩
        replace HN : Hid _ := fun r5 r6 r7 => HN.out _ r5 r6 r7 rfl
        generalize rstep (num 0 1099511627776) 0 bs r3.2 = r4 at *
        have Dr4 := Er3.rw hlt hbx hSr4 (RX.of hWr4)
        clear Er3 hSr4 hWr4 hnr4
        have cr4 : x4.cell? ⟨bx, 3, none⟩ = some (.int .i64 0) := Dr4.blk.cell 3
        have zr4 := Dr4.blk.frozen 3
        have Er4 : DV w hb ao n cap bs r4.2 bx #[.string ⟨r1.1.toArray⟩, .int .i64 r2.1, .int .i64 r3.1, .int .i64 r4.1, .int .i64 0, .int .i64 0, .int .i64 0] u3 l (x4.setCell ⟨bx, 3, none⟩ (.int .i64 r4.1)) := Dr4.set hlt hbx hab hne 3 _
        clear Dr4
        have HD : Hid _ := And.intro Er4 (And.intro hne hbx)
        clear Er4 hne hbx
        go_wp2_with fail
        obtain ⟨Er4, hne, hbx⟩ := HD.out
        generalize (x4.setCell ⟨bx, 3, none⟩ (.int .i64 r4.1)) = W4 at *
        clear cr4 zr4
        have hnr := rrights2_any hb ao n cap bs r4.2 W4 Er4.rd hsm (fun b o e => by have := hab b o e; have := Er4.rx.size; omega) _ _ rfl rfl
        refine hnr.mono ?_
        rintro er w6 ⟨rfl, hSr, hXr⟩
        replace HN : Hid _ := fun r6 r7 => HN.out _ r6 r7 rfl
        generalize rstep (num 0 1099511627776) 0 bs r4.2 = r5 at *
        replace HN : Hid _ := fun r7 => HN.out _ r7 rfl
        generalize rstep (num 0 1099511627776) 0 bs r5.2 = r6 at *
        have Dr := Er4.rw hlt hbx hSr hXr
        clear Er4 hSr hXr hnr
        have c5 : w6.cell? ⟨bx, 4, none⟩ = some (.int .i64 0) := Dr.blk.cell 4
        have z5 := Dr.blk.frozen 4
        have c6 : w6.cell? ⟨bx, 5, none⟩ = some (.int .i64 0) := Dr.blk.cell 5
        have z6 := Dr.blk.frozen 5
        have Er6 : DV w hb ao n cap bs r6.2 bx #[.string ⟨r1.1.toArray⟩, .int .i64 r2.1, .int .i64 r3.1, .int .i64 r4.1, .int .i64 r5.1, .int .i64 r6.1, .int .i64 0] u3 l ((w6.setCell ⟨bx, 4, none⟩ (.int .i64 r5.1)).setCell ⟨bx, 5, none⟩ (.int .i64 r6.1)) := (Dr.set hlt hbx hab hne 4 _).set hlt hbx hab hne 5 _
        clear Dr
        unfold two
        have HD : Hid _ := And.intro Er6 (And.intro hne hbx)
        clear Er6 hne hbx
        go_wp2_with fail
        obtain ⟨Er6, hne, hbx⟩ := HD.out
        generalize ((w6.setCell ⟨bx, 4, none⟩ (.int .i64 r5.1)).setCell ⟨bx, 5, none⟩ (.int .i64 r6.1)) = W6 at *
        clear c5 z5 c6 z6
        have hnr7 := rnum_any hb ao n cap bs r6.2 0 1099511627776 (by omega) (by omega) _ Er6.rd hsm
        refine hnr7.mono ?_
        rintro er7 x7 ⟨rfl, hSr7, hWr7⟩
        replace HN : Hid _ := HN.out _ rfl
        generalize rstep (num 0 1099511627776) 0 bs r6.2 = r7 at *
        have Dr7 := Er6.rw hlt hbx hSr7 (RX.of hWr7)
        clear Er6 hSr7 hWr7 hnr7
        have cr7 : x7.cell? ⟨bx, 6, none⟩ = some (.int .i64 0) := Dr7.blk.cell 6
        have zr7 := Dr7.blk.frozen 6
        have Er7 : DV w hb ao n cap bs r7.2 bx #[.string ⟨r1.1.toArray⟩, .int .i64 r2.1, .int .i64 r3.1, .int .i64 r4.1, .int .i64 r5.1, .int .i64 r6.1, .int .i64 r7.1] u3 l (x7.setCell ⟨bx, 6, none⟩ (.int .i64 r7.1)) := Dr7.set hlt hbx hab hne 6 _
        clear Dr7
        obtain ⟨i0, hi, hz0, hz1, hz2⟩ := info_parts Try.info106
        have hM : Blk (x7.setCell ⟨bx, 6, none⟩ (.int .i64 r7.1)) bx #[.string ⟨r1.1.toArray⟩, .int .i64 r2.1, .int .i64 r3.1, .int .i64 r4.1, .int .i64 r5.1, .int .i64 r6.1, .int .i64 r7.1] 106 := Er7.blk
        have hal : Below (x7.setCell ⟨bx, 6, none⟩ (.int .i64 r7.1)).heap.size (x7.setCell ⟨bx, 6, none⟩ (.int .i64 r7.1)) ((x7.setCell ⟨bx, 6, none⟩ (.int .i64 r7.1)).alloc (.cells #[.string ⟨r1.1.toArray⟩, .int .i64 r2.1, .int .i64 r3.1, .int .i64 r4.1, .int .i64 r5.1, .int .i64 r6.1, .int .i64 r7.1] 106)) := by go_grown
        have hO7 : ((x7.setCell ⟨bx, 6, none⟩ (.int .i64 r7.1)).alloc (.cells #[.string ⟨r1.1.toArray⟩, .int .i64 r2.1, .int .i64 r3.1, .int .i64 r4.1, .int .i64 r5.1, .int .i64 r6.1, .int .i64 r7.1] 106)).ownsRow w.heap.size 106 7 u3 l.length (rowV l) := own_stableG Er7.own fun j h1 h2 => hal.block j h2
        have hR7 : RdB ((x7.setCell ⟨bx, 6, none⟩ (.int .i64 r7.1)).alloc (.cells #[.string ⟨r1.1.toArray⟩, .int .i64 r2.1, .int .i64 r3.1, .int .i64 r4.1, .int .i64 r5.1, .int .i64 r6.1, .int .i64 r7.1] 106)) hb ao n cap bs r7.2 := Er7.rd.keep hal.block
        have hX7 : RX hb w ((x7.setCell ⟨bx, 6, none⟩ (.int .i64 r7.1)).alloc (.cells #[.string ⟨r1.1.toArray⟩, .int .i64 r2.1, .int .i64 r3.1, .int .i64 r4.1, .int .i64 r5.1, .int .i64 r6.1, .int .i64 r7.1] 106)) := Er7.rx.trans (RX.up hal)
        have hbs7 : w.heap.size ≤ ((x7.setCell ⟨bx, 6, none⟩ (.int .i64 r7.1)).alloc (.cells #[.string ⟨r1.1.toArray⟩, .int .i64 r2.1, .int .i64 r3.1, .int .i64 r4.1, .int .i64 r5.1, .int .i64 r6.1, .int .i64 r7.1] 106)).heap.size := hX7.size
        have hszw : (x7.setCell ⟨bx, 6, none⟩ (.int .i64 r7.1)).heap.size = x7.heap.size := by simp [World.setCell]
        have hnews : ∀ j u, (viewCells ⟨r1.1, r2.1, r3.1, r4.1, r5.1, r6.1, r7.1⟩)[j]? = some u → ((x7.setCell ⟨bx, 6, none⟩ (.int .i64 r7.1)).alloc (.cells #[.string ⟨r1.1.toArray⟩, .int .i64 r2.1, .int .i64 r3.1, .int .i64 r4.1, .int .i64 r5.1, .int .i64 r6.1, .int .i64 r7.1] 106)).cell? ((⟨x7.heap.size, 0, none⟩ : Addr).add j) = some u := by
          intro j u hu
          rw [← hszw]
          rw [addr_add, Nat.zero_add, cell_of_row _ _ _ _ _ _ (heap_alloc_new _ _), ← Array.getElem?_toList]
          exact hu
        have HD : Hid _ := And.intro hO7 (And.intro hR7 (And.intro hX7 (And.intro hbs7 hnews)))
        clear hO7 hR7 hX7 hbs7 hnews Er7 hal
        go_wp2_with (first | (refine wpList_load_row rfl 106 (.tmp 6) rfl bx rfl 106 #[.string ⟨r1.1.toArray⟩, .int .i64 r2.1, .int .i64 r3.1, .int .i64 r4.1, .int .i64 r5.1, .int .i64 r6.1, .int .i64 r7.1] (0, 0) _ hM Try.underlying106 rfl (by kernel_rfl) ?_) | (at_builtin; go_must (refine wpList_append_own _ rfl _ _ 33 rfl w.heap.size 106 i0 _ 7 64 Try.underlying33 hi hz0 hz1 hz2 rfl (by decide) u3 l.length (rowV l) rfl HD.out.1 _ 1 1 (viewCells ⟨r1.1, r2.1, r3.1, r4.1, r5.1, r6.1, r7.1⟩) rfl rfl HD.out.2.2.2.2 (by simp [viewCells, Str, Value.oneCell']) (by unfold maxLen; omega) (by omega) HD.out.2.2.2.1 ?_)) | fail)
        intro v' w' hO' hG' _
        rw [← rowV_snoc] at hO'
        obtain ⟨hO7, hR7, hX7, hbs7, _⟩ := HD.out
        have hlo : ∀ j, j < w.heap.size → some j ≠ u3.ownBlock := fun j hj e => by have := (hO7.lt j e.symm).1; omega
        have hlo' : ∀ j, j < w.heap.size → w'.heap[j]? = _ := fun j hj => hG'.block j (Nat.lt_of_lt_of_le hj hbs7) (hlo j hj)
        have hX8 : RX hb w w' := ⟨hG'.os.trans hX7.os, hG'.tape.trans hX7.tape, hG'.output.trans hX7.output, Nat.le_trans hX7.size hG'.size, fun j h1 h2 => (hlo' j h1).trans (hX7.block j h1 h2)⟩
        have hR8 : RdB w' hb ao n cap bs r7.2 := by
          refine ⟨(hlo' hb hlt).trans hR7.blk, hR7.len, fun h0 => ?_, hR7.le⟩
          obtain ⟨b, off, e, hc⟩ := hR7.src h0
          exact ⟨b, off, e, fun j u hu => (World.cell?_of_block (hlo' b (hab b off e))).trans (hc j u hu)⟩
        have hbc : w'.cell? ⟨bx, 0, none⟩ = some (.string ⟨r1.1.toArray⟩) := by
          have h1 : w'.heap[bx]? = _ := hG'.block bx (by have := hM.lt; rw [World.size_alloc]; omega) (fun e => hne e.symm)
          rw [Below.heap_alloc _ _ _ hM.lt] at h1
          exact (World.cell?_of_block h1).trans (hM.cell 0)
        have HE : Hid _ := And.intro hX8 (And.intro hR8 hO')
        have HK : Hid _ := hkl
        clear hX8 hR8 hO' hlo hlo' hO7 hR7 hX7 hbs7 hG' hi hz0 hz1 hz2 hM cr7 zr7
        go_wp2
        go_roundw
        case rel =>
          have hvs := HN.out
          refine ⟨k - 1, r1.1, l ++ [⟨r1.1, r2.1, r3.1, r4.1, r5.1, r6.1, r7.1⟩], r7.2, ?_, ?_, rfl, HE.out.2.1, HE.out.1, by rw [List.length_append]; exact HE.out.2.2, ?_⟩
          · congr 1; omega
          · rw [List.length_append]; have := HK.out; simp only [List.length_singleton]; omega
          · obtain ⟨k', rfl⟩ : ∃ k', k = k' + 1 := ⟨k - 1, by omega⟩
            rw [HVT.out, show vlist bs (k' + 1) ab (q, false) = ((vstep bs ab (q, false)).1 :: (vlist bs k' (vstep bs ab (q, false)).1.name (vstep bs ab (q, false)).2).1, (vlist bs k' (vstep bs ab (q, false)).1.name (vstep bs ab (q, false)).2).2) from rfl, hvs]
            simp
        case measure => simp [intOf]; omega
end Go.Proofs.Ytneiomimjgfbpaa
namespace Go.Proofs.Ytneiomimjgfbpaa
open Go.RowKit Go.PlainAid
set_option linter.unusedSimpArgs false
set_option linter.unusedVariables false
def p0 (bs : List UInt8) (st : Nat × Bool) : Msg × (Nat × Bool) :=
  let r1 := nstep [] bs st
  let r2 := rstep (num 1 1099511627776) 0 bs r1.2
  let r3 := rstep (num 0 1099511627776) 0 bs r2.2
  let r4 := rstep (num 1 1099511627776) 0 bs r3.2
  let r5 := rstep (num 0 15) 0 bs r4.2
  let r6 := rstep (num 0 1099511627776) 0 bs r5.2
  let r7 := rstep (num 0 1099511627776) 0 bs r6.2
  ({ Msg.zero with kind := 0, name := r1.1, cap := r2.1, recaps := r3.1, round := r4.1, rank := r5.1, down := r6.1, up := r7.1 }, r7.2)
def p1 (bs : List UInt8) (st : Nat × Bool) : Msg × (Nat × Bool) :=
  let r1 := rstep (num 0 63) 0 bs st
  let r2 := rstep (num 1 1099511627776) 0 bs r1.2
  let r3 := ostep bs r2.2
  ({ Msg.zero with kind := 1, session := r1.1, id := r2.1, okind := r3.1.1, oname := r3.1.2.1, oa := r3.1.2.2.1, ob := r3.1.2.2.2 }, r3.2)
def p3 (bs : List UInt8) (st : Nat × Bool) : Msg × (Nat × Bool) :=
  let r1 := nstep [] bs st
  let r2 := rstep (num 1 1099511627776) 0 bs r1.2
  let r3 := rstep (num 0 1099511627776) 0 bs r2.2
  let r4 := rstep (num 1 1099511627776) 0 bs r3.2
  let r5 := rstep (num 0 15) 0 bs r4.2
  ({ Msg.zero with kind := 3, name := r1.1, cap := r2.1, recaps := r3.1, round := r4.1, rank := r5.1 }, r5.2)
def p4 (bs : List UInt8) (st : Nat × Bool) : Msg × (Nat × Bool) :=
  let r1 := nstep [] bs st
  let r2 := rstep (num 1 1099511627776) 0 bs r1.2
  let r3 := rstep (num 0 1099511627776) 0 bs r2.2
  let r4 := rstep (num 1 1099511627776) 0 bs r3.2
  let r5 := rstep (num 0 15) 0 bs r4.2
  let r6 := rstep (num 0 1099511627776) 0 bs r5.2
  let r7 := rstep (num 0 1099511627776) 0 bs r6.2
  let r8 := rstep (num 0 1099511627776) 0 bs r7.2
  ({ Msg.zero with kind := 4, name := r1.1, cap := r2.1, recaps := r3.1, round := r4.1, rank := r5.1, down := r6.1, up := r7.1, held := r8.1 }, r8.2)
def p5 (bs : List UInt8) (st : Nat × Bool) : Msg × (Nat × Bool) :=
  let r1 := nstep [] bs st
  let r2 := rstep (num 1 1099511627776) 0 bs r1.2
  let r3 := rstep (num 0 1099511627776) 0 bs r2.2
  let r4 := rstep (num 1 1099511627776) 0 bs r3.2
  let r5 := rstep (num 0 15) 0 bs r4.2
  let r6 := rstep (num 0 1099511627776) 0 bs r5.2
  let r7 := rstep (num 0 1099511627776) 0 bs r6.2
  ({ Msg.zero with kind := 5, name := r1.1, cap := r2.1, recaps := r3.1, round := r4.1, rank := r5.1, down := r6.1, up := r7.1 }, r7.2)
def p6 (bs : List UInt8) (st : Nat × Bool) : Msg × (Nat × Bool) :=
  let r1 := nstep [] bs st
  let r2 := rstep (num 1 1099511627776) 0 bs r1.2
  let r3 := rstep (num 0 1099511627776) 0 bs r2.2
  let r4 := rstep (num 1 1099511627776) 0 bs r3.2
  let r5 := rstep (num 0 15) 0 bs r4.2
  let r6 := rstep (num 0 1099511627776) 0 bs r5.2
  let r7 := rstep (num 0 1099511627776) 0 bs r6.2
  ({ Msg.zero with kind := 6, name := r1.1, cap := r2.1, recaps := r3.1, round := r4.1, rank := r5.1, down := r6.1, up := r7.1 }, r7.2)
def p7 (bs : List UInt8) (st : Nat × Bool) : Msg × (Nat × Bool) :=
  let r1 := nstep [] bs st
  let r2 := rstep (num 1 1099511627776) 0 bs r1.2
  let r3 := rstep (num 0 1099511627776) 0 bs r2.2
  let r4 := rstep (num 1 1099511627776) 0 bs r3.2
  let r5 := rstep (num 0 15) 0 bs r4.2
  let r6 := rstep (num 1 1099511627776) 0 bs r5.2
  let r7 := rstep (num 0 15) 0 bs r6.2
  ({ Msg.zero with kind := 7, name := r1.1, cap := r2.1, recaps := r3.1, round := r4.1, rank := r5.1, oround := r6.1, orank := r7.1 }, r7.2)
def p8 (bs : List UInt8) (st : Nat × Bool) : Msg × (Nat × Bool) :=
  let r1 := nstep [] bs st
  let r2 := rstep (num 1 1099511627776) 0 bs r1.2
  let r3 := rstep (num 0 1099511627776) 0 bs r2.2
  let r4 := rstep (num 0 1099511627776) 0 bs r3.2
  let r5 := rstep (num 0 1099511627776) 0 bs r4.2
  ({ Msg.zero with kind := 8, name := r1.1, cap := r2.1, recaps := r3.1, down := r4.1, up := r5.1 }, r5.2)
def p9 (bs : List UInt8) (st : Nat × Bool) : Msg × (Nat × Bool) :=
  let r1 := nstep [] bs st
  let r2 := rstep (num 1 1099511627776) 0 bs r1.2
  let r3 := rstep (num 0 1099511627776) 0 bs r2.2
  let r4 := rstep (num 0 1099511627776) 0 bs r3.2
  let r5 := rstep (num 0 1099511627776) 0 bs r4.2
  ({ Msg.zero with kind := 9, name := r1.1, cap := r2.1, recaps := r3.1, down := r4.1, up := r5.1 }, r5.2)
def p10 (bs : List UInt8) (st : Nat × Bool) : Msg × (Nat × Bool) :=
  let r1 := vsteps bs st
  ({ Msg.zero with kind := 10, views := r1.1 }, r1.2)
def p2a (bs : List UInt8) (st : Nat × Bool) : Msg × (Nat × Bool) :=
  let r1 := rstep (num 0 63) 0 bs st
  let r2 := rstep (num 1 1099511627776) 0 bs r1.2
  let r3 := nstep [] bs r2.2
  let r4 := rstep (num 0 255) 0 bs r3.2
  let r5 := rstep (num 1 1099511627776) 0 bs r4.2
  let r6 := rstep (num 0 1099511627776) 0 bs r5.2
  ({ Msg.zero with kind := 2, session := r1.1, id := r2.1, name := r3.1, err := r4.1, cap := r5.1, recaps := r6.1 }, r6.2)
def p2b (bs : List UInt8) (st : Nat × Bool) : Msg × (Nat × Bool) :=
  let r1 := rstep (num 0 63) 0 bs st
  let r2 := rstep (num 1 1099511627776) 0 bs r1.2
  let r3 := nstep [] bs r2.2
  let r4 := rstep (num 0 255) 0 bs r3.2
  ({ Msg.zero with kind := 2, session := r1.1, id := r2.1, name := r3.1, err := r4.1 }, r4.2)
def p2 (bs : List UInt8) (st : Nat × Bool) : Msg × (Nat × Bool) :=
  if hasCap (rstep (num 0 255) 0 bs (nstep [] bs (rstep (num 1 1099511627776) 0 bs (rstep (num 0 63) 0 bs st).2).2).2).1 then p2a bs st else p2b bs st
/-- What 'msg' answers. -/
def MsgAns (w : World) (r : Msg × (Nat × Bool)) (e : Ending) (w' : World) : Prop := ∃ m ao c, e = .returned (.agg (msgCells m (.slice ao m.views.length c))) ∧ w'.ownsRow w.heap.size 106 7 (.slice ao m.views.length c) m.views.length (rowV m.views) ∧ m.views.length ≤ 64 ∧ (r.2.2 = false → m = r.1)
theorem own_monoG {w : World} {base base' e size : Nat} {v : Value} {n : Nat} {xs : List Value} (h : w.ownsRow base e size v n xs) (hb : base' ≤ base) : w.ownsRow base' e size v n xs := by
  refine ⟨h.1, h.2.imp id ?_⟩
  rintro ⟨g, c', cur, e1, e2, e3⟩
  exact ⟨g, c', cur, e1, by omega, e3⟩
theorem arr20 {C : Array Value} (h : C.size = 20) (j : Nat) (hj : j < 20) : ∃ u, C[j]? = some u := ⟨_, Array.getElem?_eq_getElem (by omega)⟩
theorem set20 {C : Array Value} (h : C.size = 20) (j : Nat) (v : Value) : (C.setIfInBounds j v).size = 20 := by rw [Array.size_setIfInBounds]; exact h
theorem set0 {C : Array Value} {u : Value} (h : C[0]? = some u) (j : Nat) (v : Value) (hj : j ≠ 0) : (C.setIfInBounds j v)[0]? = some u := by rw [Array.getElem?_setIfInBounds_ne hj]; exact h
end Go.Proofs.Ytneiomimjgfbpaa
namespace Go.Proofs.Ytneiomimjgfbpaa
open Go.RowKit Go.PlainAid
set_option linter.unusedSimpArgs false
set_option linter.unusedVariables false
theorem Follows.congr {α : Type} {c : Codec α} {bs : List UInt8} {f g : Nat × Bool → α × (Nat × Bool)} (h : Follows c bs f) (e : ∀ st, f st = g st) : Follows c bs g := by
  have : f = g := funext e
  rw [← this]; exact h
/-- A whole thing, as a reader that follows its codec has read it. -/
theorem whole_follows {α : Type} {c : Codec α} {bs : List UInt8} {f : Nat × Bool → α × (Nat × Bool)} (h : Follows c bs f) :
    ((f (0, false)).2.2 = true ∨ (f (0, false)).2.1 < bs.length → whole c bs = .error (f (0, false)).2.1) ∧ (¬ ((f (0, false)).2.2 = true ∨ (f (0, false)).2.1 < bs.length) → whole c bs = .ok ((f (0, false)).1, 0)) := by
  unfold whole
  cases hs : c.rd bs with
  | error k =>
    have := h.bad 0 k (by simpa using hs)
    rw [this]
    exact ⟨fun _ => by simp, fun h => absurd (Or.inl rfl) h⟩
  | ok v =>
    obtain ⟨x, k⟩ := v
    have := h.good 0 x k (by simpa using hs)
    rw [this]
    constructor
    · rintro (h | h)
      · cases h
      · show (if k < bs.length then _ else _) = _
        rw [if_pos (by simpa using h)]; simp
    · intro h
      show (if k < bs.length then _ else _) = _
      rw [if_neg (fun hk => h (Or.inr (by simpa using hk)))]
def pg (k : Int) (bs : List UInt8) (st : Nat × Bool) : Msg × (Nat × Bool) :=
  let r1 := nstep [] bs st
  let r2 := rstep (num 1 1099511627776) 0 bs r1.2
  let r3 := rstep (num 0 1099511627776) 0 bs r2.2
  let r4 := rstep (num 1 1099511627776) 0 bs r3.2
  let r5 := rstep (num 0 15) 0 bs r4.2
  let r6 := rstep (num 0 1099511627776) 0 bs r5.2
  let r7 := rstep (num 0 1099511627776) 0 bs r6.2
  ({ Msg.zero with kind := k, name := r1.1, cap := r2.1, recaps := r3.1, round := r4.1, rank := r5.1, down := r6.1, up := r7.1 }, r7.2)
def pw (k : Int) (bs : List UInt8) (st : Nat × Bool) : Msg × (Nat × Bool) :=
  let r1 := nstep [] bs st
  let r2 := rstep (num 1 1099511627776) 0 bs r1.2
  let r3 := rstep (num 0 1099511627776) 0 bs r2.2
  let r4 := rstep (num 0 1099511627776) 0 bs r3.2
  let r5 := rstep (num 0 1099511627776) 0 bs r4.2
  ({ Msg.zero with kind := k, name := r1.1, cap := r2.1, recaps := r3.1, down := r4.1, up := r5.1 }, r5.2)
def bodyF (k : Int) (bs : List UInt8) : Nat × Bool → Msg × (Nat × Bool) :=
  if k = 1 then p1 bs else if k = 2 then p2 bs else if k = 3 then p3 bs else if k = 4 then p4 bs else if k = 7 then p7 bs
  else if k = 8 ∨ k = 9 then pw k bs else if k = 10 then p10 bs else pg k bs
theorem f_caps (bs : List UInt8) : Follows caps bs (fun st => (((rstep (num 1 1099511627776) 0 bs st).1, (rstep (num 0 1099511627776) 0 bs (rstep (num 1 1099511627776) 0 bs st).2).1), (rstep (num 0 1099511627776) 0 bs (rstep (num 1 1099511627776) 0 bs st).2).2)) :=
  (Follows.step (num 1 maxN) 0 bs).pair (Follows.step (num 0 maxN) 0 bs)
theorem f_call (bs : List UInt8) : Follows call bs (fun st => (((rstep (num 0 63) 0 bs st).1, (rstep (num 1 1099511627776) 0 bs (rstep (num 0 63) 0 bs st).2).1), (rstep (num 1 1099511627776) 0 bs (rstep (num 0 63) 0 bs st).2).2)) :=
  (Follows.step (num 0 63) 0 bs).pair (Follows.step (num 1 maxN) 0 bs)
theorem f_epoch (bs : List UInt8) : Follows epoch bs (fun st => (((rstep (num 1 1099511627776) 0 bs st).1, (rstep (num 0 15) 0 bs (rstep (num 1 1099511627776) 0 bs st).2).1), (rstep (num 0 15) 0 bs (rstep (num 1 1099511627776) 0 bs st).2).2)) :=
  (Follows.step (num 1 maxN) 0 bs).pair (Follows.step (num 0 15) 0 bs)
theorem f_rights (bs : List UInt8) : Follows rights bs (fun st => (((rstep (num 0 1099511627776) 0 bs st).1, (rstep (num 0 1099511627776) 0 bs (rstep (num 0 1099511627776) 0 bs st).2).1), (rstep (num 0 1099511627776) 0 bs (rstep (num 0 1099511627776) 0 bs st).2).2)) :=
  (Follows.step (num 0 maxN) 0 bs).pair (Follows.step (num 0 maxN) 0 bs)
def capF (e : Int) (bs : List UInt8) (st : Nat × Bool) : (Int × Int) × (Nat × Bool) :=
  if hasCap e then (((rstep (num 1 1099511627776) 0 bs st).1, (rstep (num 0 1099511627776) 0 bs (rstep (num 1 1099511627776) 0 bs st).2).1), (rstep (num 0 1099511627776) 0 bs (rstep (num 1 1099511627776) 0 bs st).2).2) else ((0, 0), st)
theorem f_capsIf (e : Int) (bs : List UInt8) : Follows (capsIf e) bs (capF e bs) := by
  unfold capsIf
  by_cases h : hasCap e = true
  · rw [if_pos h]
    exact (f_caps bs).congr fun st => by unfold capF; rw [if_pos h]
  · rw [if_neg h]
    have e1 : ∀ st, capF e bs st = ((0, 0), st) := fun st => by unfold capF; rw [if_neg h]
    refine ⟨fun p => by rw [e1], fun p k h => ?_, fun p x k h => ?_⟩
    · simp [Codec.map, Codec.unit] at h
    · simp [Codec.map, Codec.unit] at h
      obtain ⟨rfl, rfl⟩ := h
      rw [e1]; rfl
theorem f_ask (bs : List UInt8) : Follows askC bs (p1 bs) := ((f_call bs).pair (Follows.op bs)).map _ _ _
theorem f_mark (bs : List UInt8) : Follows markC bs (p3 bs) := ((Follows.name [] bs).pair ((f_caps bs).pair (f_epoch bs))).map _ _ _
theorem f_yield (bs : List UInt8) : Follows yieldC bs (p4 bs) := ((Follows.name [] bs).pair ((f_caps bs).pair ((f_epoch bs).pair ((f_rights bs).pair (Follows.step (num 0 maxN) 0 bs))))).map _ _ _
theorem f_over (bs : List UInt8) : Follows overC bs (p7 bs) := ((Follows.name [] bs).pair ((f_caps bs).pair ((f_epoch bs).pair (f_epoch bs)))).map _ _ _
theorem f_grant (k : Int) (bs : List UInt8) : Follows (grantC k) bs (pg k bs) := ((Follows.name [] bs).pair ((f_caps bs).pair ((f_epoch bs).pair (f_rights bs)))).map _ _ _
theorem f_want (k : Int) (bs : List UInt8) : Follows (wantC k) bs (pw k bs) := ((Follows.name [] bs).pair ((f_caps bs).pair (f_rights bs))).map _ _ _
theorem f_digest (bs : List UInt8) : Follows digestC bs (p10 bs) := (Follows.views bs).map _ _ _
theorem f_told (bs : List UInt8) : Follows toldC bs (p2 bs) := by
  refine (((f_call bs).pair ((Follows.name [] bs).pair ((Follows.step errno 0 bs).bind fun e => f_capsIf e bs))).map _ _ _).congr fun st => ?_
  unfold p2
  by_cases h : hasCap (rstep (num 0 255) 0 bs (nstep [] bs (rstep (num 1 1099511627776) 0 bs (rstep (num 0 63) 0 bs st).2).2).2).1 = true
  · rw [if_pos h]
    simp only [capF, errno, h, if_true]
    rfl
  · rw [if_neg h]
    have h' : hasCap (rstep (num 0 255) 0 bs (nstep [] bs (rstep (num 1 1099511627776) 0 bs (rstep (num 0 63) 0 bs st).2).2).2).1 = false := by simpa using h
    simp only [capF, errno, h', Bool.false_eq_true, if_false]
    rfl
theorem f_body (k : Int) (bs : List UInt8) : Follows (bodyC k) bs (bodyF k bs) := by
  unfold bodyC bodyF
  split
  · exact f_ask bs
  split
  · exact f_told bs
  split
  · exact f_mark bs
  split
  · exact f_yield bs
  split
  · exact f_over bs
  split
  · exact f_want k bs
  split
  · exact f_digest bs
  · exact f_grant k bs
def mstep (bs : List UInt8) (st : Nat × Bool) : Msg × (Nat × Bool) := bodyF (rstep (num 1 10) 0 bs st).1 bs (rstep (num 1 10) 0 bs st).2
theorem f_msg (bs : List UInt8) : Follows message bs (mstep bs) := ((Follows.step (num 1 10) 0 bs).bind fun k => f_body k bs).map _ _ _
end Go.Proofs.Ytneiomimjgfbpaa
