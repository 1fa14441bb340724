import Derived.Test.YtnphkmdanicemaaGreatDoorJJ
import Derived.Test.YtnphkmdanicemaaGreatDoorR0
import Derived.Test.YtnphkmdanicemaaGreatDoorJH
namespace Go.Proofs.YtnphkmdanicemaaGreatDoor
open Go.RowKit Go.PlainAid Go.MapKept
set_option linter.unusedVariables false
set_option linter.unusedSimpArgs false
/-- What is lacking by the document's list. -/
def rlkS (n : List UInt8) (acc : Rg) (e : RE) : Rg := if e.1 = n ∧ e.2.2.2 = false then (max acc.1 e.2.1, max acc.2 e.2.2.1) else acc
def rlk (n : List UInt8) (A : List RE) : Rg := A.foldl (rlkS n) (0, 0)
structure PIx where
  pb : Nat
  gb : Nat
  mb : Nat
  lb : Nat
  hb : Nat
  vb : Nat
  qb : Nat
  kb : Nat
  rb : Nat
  me : Int
  N : Nat
structure PVl where
  ver : Nat
  L : GL
  A : List RE
  gv : Value
  s : Led.LS
  VL : List Ent
  VA : List Ent
  vv : Value
def okR (p : Rg) : Prop := (0 ≤ p.1 ∧ p.1 ≤ 1099511627776) ∧ 0 ≤ p.2 ∧ p.2 ≤ 1099511627776
def ownP (i : PIx) (x : PVl) (k : Nat) : Prop := k = i.pb ∨ k = i.gb ∨ k = i.mb ∨ k = i.lb ∨ k = i.hb ∨ k = i.vb ∨ k = i.qb ∨ k = i.kb ∨ k = i.rb ∨ x.gv.ownBlock = some k ∨ x.vv.ownBlock = some k
structure PI (L0 M : Nat) (i : PIx) (x : PVl) (w : World) : Prop where
  box : Blk w i.pb #[.int .i64 i.me, .int .i64 i.N, .int .i64 x.ver, .pointer (some ⟨i.gb, 0, none⟩), .pointer (some ⟨i.lb, 0, none⟩), .pointer (some ⟨i.hb, 0, none⟩), .pointer (some ⟨i.qb, 0, none⟩), .pointer (some ⟨i.kb, 0, none⟩), .pointer (some ⟨i.rb, 0, none⟩)] 56
  gs : Gs i.gb i.mb i.me i.N x.L w
  rg : RGs L0 i.qb i.me i.N x.gv x.A w
  ld : Blk w i.lb x.s.cs 82
  rl : Blk w i.kb x.s.cs 122
  ok : x.s.Ok
  vw : Vw i.hb i.vb i.me i.N x.VL w
  rv : RVw L0 i.rb i.me i.N x.vv x.VA w
  ag : AgC i.me M x.VL x.VA
  al : x.VA.length ≤ 128 * M
  ver : x.ver ≤ M
  kd : Gm.KD x.L
  lo' : ∀ n, okR (lk n x.L)
  lg : ∀ n, lk n x.L = rlk n x.A
  gl : x.A.length ≤ M
  ne : i.mb ≠ i.vb
  lo : L0 ≤ i.pb ∧ L0 ≤ i.gb ∧ L0 ≤ i.mb ∧ L0 ≤ i.lb ∧ L0 ≤ i.hb ∧ L0 ≤ i.vb ∧ L0 ≤ i.kb
section
variable {L0 M : Nat} {i : PIx} {x : PVl} {w w' : World}
theorem PI.lt (h : PI L0 M i x w) {k : Nat} (hk : ownP i x k) : L0 ≤ k ∧ k < w.heap.size := by
  obtain ⟨l1, l2, l3, l4, l5, l6, l7⟩ := h.lo
  rcases hk with rfl | rfl | rfl | rfl | rfl | rfl | rfl | rfl | rfl | hk | hk
  · exact ⟨l1, h.box.lt⟩
  · exact ⟨l2, h.gs.blk.lt⟩
  · exact ⟨l3, h.gs.map.lt⟩
  · exact ⟨l4, h.ld.lt⟩
  · exact ⟨l5, h.vw.blk.lt⟩
  · exact ⟨l6, h.vw.map.lt⟩
  · exact ⟨h.rg.lo, h.rg.blk.lt⟩
  · exact ⟨l7, h.rl.lt⟩
  · exact ⟨h.rv.lo, h.rv.blk.lt⟩
  · exact ownsRow_lt h.rg.row hk
  · exact ownsRow_lt h.rv.row hk
theorem PI.keep (h : PI L0 M i x w) (hk : ∀ k, ownP i x k → w'.heap[k]? = w.heap[k]?) : PI L0 M i x w' := by
  have k1 := hk i.pb (Or.inl rfl)
  have k2 := hk i.gb (Or.inr (Or.inl rfl))
  have k3 := hk i.mb (Or.inr (Or.inr (Or.inl rfl)))
  have k4 := hk i.lb (Or.inr (Or.inr (Or.inr (Or.inl rfl))))
  have k5 := hk i.hb (Or.inr (Or.inr (Or.inr (Or.inr (Or.inl rfl)))))
  have k6 := hk i.vb (Or.inr (Or.inr (Or.inr (Or.inr (Or.inr (Or.inl rfl))))))
  have k7 := hk i.qb (Or.inr (Or.inr (Or.inr (Or.inr (Or.inr (Or.inr (Or.inl rfl)))))))
  have k8 := hk i.kb (Or.inr (Or.inr (Or.inr (Or.inr (Or.inr (Or.inr (Or.inr (Or.inl rfl))))))))
  have k9 := hk i.rb (Or.inr (Or.inr (Or.inr (Or.inr (Or.inr (Or.inr (Or.inr (Or.inr (Or.inl rfl)))))))))
  have kg : ∀ g, x.gv.ownBlock = some g → w'.heap[g]? = w.heap[g]? := fun g hg => hk g (Or.inr (Or.inr (Or.inr (Or.inr (Or.inr (Or.inr (Or.inr (Or.inr (Or.inr (Or.inl hg))))))))))
  have kv : ∀ g, x.vv.ownBlock = some g → w'.heap[g]? = w.heap[g]? := fun g hg => hk g (Or.inr (Or.inr (Or.inr (Or.inr (Or.inr (Or.inr (Or.inr (Or.inr (Or.inr (Or.inr hg))))))))))
  exact ⟨k1.trans h.box, ⟨k2.trans h.gs.blk, h.gs.map.same k3⟩, h.rg.keep k7 kg, k4.trans h.ld, k8.trans h.rl, h.ok, ⟨k5.trans h.vw.blk, h.vw.map.same k6⟩, h.rv.keep k9 kv, h.ag, h.al, h.ver, h.kd, h.lo', h.lg, h.gl, h.ne, h.lo⟩
theorem PI.more (h : PI L0 M i x w) (hb : Below w.heap.size w w') : PI L0 M i x w' := h.keep (fun k hk => hb.block k (h.lt hk).2)
theorem PI.mono (h : PI L0 M i x w) : PI L0 (M + 1) i x w := ⟨h.box, h.gs, h.rg, h.ld, h.rl, h.ok, h.vw, h.rv, h.ag.mono (Nat.le_succ _), by have := h.al; omega, Nat.le_succ_of_le h.ver, h.kd, h.lo', h.lg, Nat.le_succ_of_le h.gl, h.ne, h.lo⟩
end
theorem Stq_chg {hb : Nat} {w w' : World} (h : Led.Stq hb w w') : Chg (fun k => k = hb) w w' := ⟨h.os, h.tape, h.output, h.size, h.block⟩
set_option maxRecDepth 100000 in
set_option maxHeartbeats 1600000 in
theorem rvnew_ok (me n : Int) (w : World) (h : newCode me n = 0) :
    Calls Tryz.prog 29 #[.int .i64 me, .int .i64 n] w fun e w' => e = .returned (.tuple #[.pointer (some ⟨w.heap.size, 0, none⟩), .int .i64 0]) ∧ Blk w' w.heap.size #[.int .i64 me, .int .i64 n, .slice none 0 0] 125 ∧ Below w.heap.size w w' ∧ w'.heap.size = w.heap.size + 1 := by
  have h2 : ¬ n < 2 ∧ ¬ 16 < n ∧ ¬ me < 0 ∧ ¬ n ≤ me := by
    unfold newCode at h
    split at h
    · cases h
    · split at h
      · cases h
      · omega
  obtain ⟨a1, a2, a3, a4⟩ := h2
  clear h
  go_enter Tryz.func29, Tryz.ntmps29
  go_wp2_with fail
  go_ret2
  exact ⟨rfl, heap_alloc_new w _, by go_grown, by simp⟩
set_option maxRecDepth 100000 in
set_option maxHeartbeats 3200000 in
theorem made_yes (me : Int) (N : Nat) (w : World) (h : newCode me N = 0) :
    Calls Tryz.prog 12 #[.int .i64 me, .int .i64 (N : Int)] w fun e w' => ∃ (i : PIx) (x : PVl), e = .returned (.tuple #[.pointer (some ⟨i.pb, 0, none⟩), .bool true]) ∧ i.me = me ∧ i.N = N ∧ x.ver = 0 ∧ x.L = [] ∧ x.A = [] ∧ x.s = Led.LS.mk 0 0 0 1099511627776 0 ∧ x.VL = [] ∧ x.VA = [] ∧ PI w.heap.size 0 i x w' ∧ Below w.heap.size w w' := by
  have HGN : Hid (∀ W, _) := fun W => gnew_any me N W h
  have HRN : Hid (∀ W, _) := fun W => rgnew_ok me N W h
  have HLN : Hid (∀ W, _) := fun W => Led.new_any 1099511627776 W (by decide)
  have HVN : Hid (∀ W, _) := fun W => new_any me N W h
  have HKN : Hid (∀ W, _) := fun W => Led.rnew_any 1099511627776 W (by decide)
  have HSN : Hid (∀ W, _) := fun W => rvnew_ok me N W h
  clear h
  go_enter Tryz.func12, Tryz.ntmps12
  go_wp2_with fail
  refine Calls.mono (HGN.out w) ?_
  rintro e9 w1 ⟨rfl, hG1, hb1, hs1⟩
  have HG1 : Hid (Gs (w.heap.size + 1) w.heap.size me N [] w1) := hG1
  have HB1 : Hid (Below w.heap.size w w1) := hb1
  have HS1 : Hid (w1.heap.size = w.heap.size + 2) := hs1
  clear hG1 hb1 hs1 HGN
  go_wp2_with fail
  refine Calls.mono (HRN.out w1) ?_
  rintro e9 w2 ⟨rfl, hG2, hb2, hs2⟩
  have HG2 : Hid (RGs w1.heap.size w1.heap.size me N (.slice none 0 0) [] w2) := hG2
  have HB2 : Hid (Below w1.heap.size w1 w2) := hb2
  have HS2 : Hid (w2.heap.size = w1.heap.size + 1) := hs2
  clear hG2 hb2 hs2 HRN
  go_wp2_with fail
  refine Calls.mono (HLN.out w2) ?_
  rintro e9 w3 ⟨rfl, hw3⟩
  have HG3 : Hid (Blk w3 w2.heap.size (Led.LS.mk 0 0 0 1099511627776 0).cs 82) := show Blk w3 w2.heap.size (Led.LS.mk 0 0 0 1099511627776 0).cs 82 from by rw [hw3]; exact heap_alloc_new w2 _
  have HB3 : Hid (Below w2.heap.size w2 w3) := show Below w2.heap.size w2 w3 from by rw [hw3]; exact (Below.refl _ _).alloc (Nat.le_refl _) _
  have HS3 : Hid (w3.heap.size = w2.heap.size + 1) := show w3.heap.size = w2.heap.size + 1 from by rw [hw3]; simp
  clear hw3 HLN
  go_wp2_with fail
  refine Calls.mono (HVN.out w3) ?_
  rintro e9 w4 ⟨rfl, hG4, hb4, hs4⟩
  have HG4 : Hid (Vw (w3.heap.size + 1) w3.heap.size me N [] w4) := hG4
  have HB4 : Hid (Below w3.heap.size w3 w4) := hb4
  have HS4 : Hid (w4.heap.size = w3.heap.size + 2) := hs4
  clear hG4 hb4 hs4 HVN
  go_wp2_with fail
  refine Calls.mono (HKN.out w4) ?_
  rintro e9 w5 ⟨rfl, hw5⟩
  have HG5 : Hid (Blk w5 w4.heap.size (Led.LS.mk 0 0 0 1099511627776 0).cs 122) := show Blk w5 w4.heap.size (Led.LS.mk 0 0 0 1099511627776 0).cs 122 from by rw [hw5]; exact heap_alloc_new w4 _
  have HB5 : Hid (Below w4.heap.size w4 w5) := show Below w4.heap.size w4 w5 from by rw [hw5]; exact (Below.refl _ _).alloc (Nat.le_refl _) _
  have HS5 : Hid (w5.heap.size = w4.heap.size + 1) := show w5.heap.size = w4.heap.size + 1 from by rw [hw5]; simp
  clear hw5 HKN
  go_wp2_with fail
  refine Calls.mono (HSN.out w5) ?_
  rintro e9 w6 ⟨rfl, hG6, hb6, hs6⟩
  have HG6 : Hid (Blk w6 w5.heap.size #[.int .i64 me, .int .i64 (N : Int), .slice none 0 0] 125) := hG6
  have HB6 : Hid (Below w5.heap.size w5 w6) := hb6
  have HS6 : Hid (w6.heap.size = w5.heap.size + 1) := hs6
  clear hG6 hb6 hs6 HSN
  go_wp2_with fail
  go_ret2
  have s1 := HS1.out
  have s2 := HS2.out
  have s3 := HS3.out
  have s4 := HS4.out
  have s5 := HS5.out
  have s6 := HS6.out
  refine ⟨⟨w6.heap.size, w.heap.size + 1, w.heap.size, w2.heap.size, w3.heap.size + 1, w3.heap.size, w1.heap.size, w4.heap.size, w5.heap.size, me, N⟩, ⟨0, [], [], .slice none 0 0, Led.LS.mk 0 0 0 1099511627776 0, [], [], .slice none 0 0⟩, rfl, rfl, rfl, rfl, rfl, rfl, rfl, rfl, rfl, ?_, ?_⟩
  · have g7 : ∀ o, Below w6.heap.size w6 (w6.alloc o) := fun o => (Below.refl _ _).alloc (Nat.le_refl _) _
    have c6 : ∀ o, Below w5.heap.size w5 (w6.alloc o) := fun o => HB6.out.trans ((g7 o).mono HB6.out.size)
    have c5 : ∀ o, Below w4.heap.size w4 (w6.alloc o) := fun o => HB5.out.trans ((c6 o).mono HB5.out.size)
    have c4 : ∀ o, Below w3.heap.size w3 (w6.alloc o) := fun o => HB4.out.trans ((c5 o).mono HB4.out.size)
    have c3 : ∀ o, Below w2.heap.size w2 (w6.alloc o) := fun o => HB3.out.trans ((c4 o).mono HB3.out.size)
    have c2 : ∀ o, Below w1.heap.size w1 (w6.alloc o) := fun o => HB2.out.trans ((c3 o).mono HB2.out.size)
    refine ⟨heap_alloc_new w6 _, HG1.out.more (c2 _), ⟨(HG2.out.more (c3 _)).blk, World.ownsRow_nil _ _ _ _, by show w.heap.size ≤ w1.heap.size; omega⟩, HG3.out.below (c4 _) HG3.out.lt, HG5.out.below (c6 _) HG5.out.lt, ⟨by decide, by decide, by decide, by decide, by decide, by decide⟩, HG4.out.more (c5 _), ⟨HG6.out.below (g7 _) HG6.out.lt, World.ownsRow_nil _ _ _ _, by show w.heap.size ≤ w5.heap.size; omega⟩, AgC.new _ _, Nat.le_refl _, Nat.le_refl _, List.Pairwise.nil, fun n => ⟨⟨Int.le_refl _, show (0 : Int) ≤ 1099511627776 by decide⟩, Int.le_refl _, show (0 : Int) ≤ 1099511627776 by decide⟩, fun n => rfl, Nat.le_refl _, by show w.heap.size ≠ w3.heap.size; omega, ?_⟩
    exact ⟨by show w.heap.size ≤ w6.heap.size; omega, by show w.heap.size ≤ w.heap.size + 1; omega, Nat.le_refl _, by show w.heap.size ≤ w2.heap.size; omega, by show w.heap.size ≤ w3.heap.size + 1; omega, by show w.heap.size ≤ w3.heap.size; omega, by show w.heap.size ≤ w4.heap.size; omega⟩
  · have hb : Below w.heap.size w w6 := HB1.out.trans ((HB2.out.trans ((HB3.out.trans ((HB4.out.trans ((HB5.out.trans (HB6.out.mono HB5.out.size)).mono HB4.out.size)).mono HB3.out.size)).mono HB2.out.size)).mono HB1.out.size)
    exact hb.alloc hb.size _
end Go.Proofs.YtnphkmdanicemaaGreatDoor
namespace Go.Proofs.YtnphkmdanicemaaGreatDoor
open Go.RowKit Go.PlainAid Go.MapKept
set_option linter.unusedVariables false
set_option linter.unusedSimpArgs false
def pbox (i : PIx) (ver : Nat) : Array Value := #[.int .i64 i.me, .int .i64 i.N, .int .i64 ver, .pointer (some ⟨i.gb, 0, none⟩), .pointer (some ⟨i.lb, 0, none⟩), .pointer (some ⟨i.hb, 0, none⟩), .pointer (some ⟨i.qb, 0, none⟩), .pointer (some ⟨i.kb, 0, none⟩), .pointer (some ⟨i.rb, 0, none⟩)]
def ownQ (i : PIx) (gv vv : Value) (k : Nat) : Prop := k = i.pb ∨ k = i.gb ∨ k = i.mb ∨ k = i.lb ∨ k = i.hb ∨ k = i.vb ∨ k = i.qb ∨ k = i.kb ∨ k = i.rb ∨ gv.ownBlock = some k ∨ vv.ownBlock = some k
/-- A pair within a call that began at w0. -/
structure PS (L0 : Nat) (i : PIx) (gv0 vv0 : Value) (w0 : World) (ver : Nat) (L : GL) (A : List RE) (gv : Value) (s s' : Led.LS) (VL VA : List Ent) (vv : Value) (w : World) : Prop where
  box : Blk w i.pb (pbox i ver) 56
  gs : Gs i.gb i.mb i.me i.N L w
  rg : RGs L0 i.qb i.me i.N gv A w
  ld : Blk w i.lb s.cs 82
  rl : Blk w i.kb s'.cs 122
  vw : Vw i.hb i.vb i.me i.N VL w
  rv : RVw L0 i.rb i.me i.N vv VA w
  ne : i.mb ≠ i.vb
  chg : Chg (ownQ i gv0 vv0) w0 w
  ga : ∀ g, gv.ownBlock = some g → gv0.ownBlock = some g ∨ w0.heap.size ≤ g
  va : ∀ g, vv.ownBlock = some g → vv0.ownBlock = some g ∨ w0.heap.size ≤ g
section
variable {L0 : Nat} {i : PIx} {gv0 vv0 : Value} {w0 : World} {ver : Nat} {L : GL} {A : List RE} {gv : Value} {s s' : Led.LS} {VL VA : List Ent} {vv : Value} {w w' : World}
theorem PI.ps {M : Nat} {x : PVl} (h : PI L0 M i x w) : PS L0 i x.gv x.vv w x.ver x.L x.A x.gv x.s x.s x.VL x.VA x.vv w :=
  ⟨h.box, h.gs, h.rg, h.ld, h.rl, h.vw, h.rv, h.ne, Chg.refl _ _, fun g hg => Or.inl hg, fun g hg => Or.inl hg⟩
theorem PS.more (h : PS L0 i gv0 vv0 w0 ver L A gv s s' VL VA vv w) (hb : Below w.heap.size w w') : PS L0 i gv0 vv0 w0 ver L A gv s s' VL VA vv w' :=
  ⟨h.box.below hb h.box.lt, h.gs.more hb, h.rg.more hb, h.ld.below hb h.ld.lt, h.rl.below hb h.rl.lt, h.vw.more hb, h.rv.more hb, h.ne, h.chg.trans (Chg.ofBelow (fun _ => False) hb) (fun _ _ e => e.elim), h.ga, h.va⟩
theorem PS.setver {ver' : Nat} (h : PS L0 i gv0 vv0 w0 ver L A gv s s' VL VA vv w) (hB : Blk w' i.pb (pbox i ver') 56) (hc : Chg (fun k => k = i.pb) w w') : PS L0 i gv0 vv0 w0 ver' L A gv s s' VL VA vv w' := by
  exact ⟨hB,
    ⟨hc.blk h.gs.blk (fun e => by exact Blk.ne_t h.gs.blk h.box (by decide) e), h.gs.map.same (hc.block _ h.gs.map.lt (fun e => by exact h.gs.map.ne_b h.box e.symm))⟩,
    h.rg.keep (hc.block _ h.rg.blk.lt (fun e => by exact Blk.ne_t h.rg.blk h.box (by decide) e)) (fun g hg => hc.block _ (ownsRow_lt h.rg.row hg).2 (fun e => by obtain ⟨c1, k1⟩ := ownsRow_type h.rg.row hg; exact Blk.ne_t (show Blk w g c1 127 from k1) h.box (by decide) e)),
    hc.blk h.ld (fun e => by exact Blk.ne_t h.ld h.box (by decide) e),
    hc.blk h.rl (fun e => by exact Blk.ne_t h.rl h.box (by decide) e),
    ⟨hc.blk h.vw.blk (fun e => by exact Blk.ne_t h.vw.blk h.box (by decide) e), h.vw.map.same (hc.block _ h.vw.map.lt (fun e => by exact h.vw.map.ne_b h.box e.symm))⟩,
    h.rv.keep (hc.block _ h.rv.blk.lt (fun e => by exact Blk.ne_t h.rv.blk h.box (by decide) e)) (fun g hg => hc.block _ (ownsRow_lt h.rv.row hg).2 (fun e => by obtain ⟨c1, k1⟩ := ownsRow_type h.rv.row hg; exact Blk.ne_t (show Blk w g c1 150 from k1) h.box (by decide) e)),
    h.ne,
    h.chg.trans hc (fun j hj e => Or.inl e),
    h.ga,
    h.va⟩
theorem PS.setG {L' : GL} (h : PS L0 i gv0 vv0 w0 ver L A gv s s' VL VA vv w) (hG : Gs i.gb i.mb i.me i.N L' w') (hc : Chg (fun k => k = i.mb) w w') : PS L0 i gv0 vv0 w0 ver L' A gv s s' VL VA vv w' := by
  exact ⟨hc.blk h.box (fun e => by exact h.gs.map.ne_b h.box e),
    hG,
    h.rg.keep (hc.block _ h.rg.blk.lt (fun e => by exact h.gs.map.ne_b h.rg.blk e)) (fun g hg => hc.block _ (ownsRow_lt h.rg.row hg).2 (fun e => by obtain ⟨c1, k1⟩ := ownsRow_type h.rg.row hg; exact h.gs.map.ne_b (show Blk w g c1 127 from k1) e)),
    hc.blk h.ld (fun e => by exact h.gs.map.ne_b h.ld e),
    hc.blk h.rl (fun e => by exact h.gs.map.ne_b h.rl e),
    ⟨hc.blk h.vw.blk (fun e => by exact h.gs.map.ne_b h.vw.blk e), h.vw.map.same (hc.block _ h.vw.map.lt (fun e => by exact (h.ne e.symm)))⟩,
    h.rv.keep (hc.block _ h.rv.blk.lt (fun e => by exact h.gs.map.ne_b h.rv.blk e)) (fun g hg => hc.block _ (ownsRow_lt h.rv.row hg).2 (fun e => by obtain ⟨c1, k1⟩ := ownsRow_type h.rv.row hg; exact h.gs.map.ne_b (show Blk w g c1 150 from k1) e)),
    h.ne,
    h.chg.trans hc (fun j hj e => Or.inr (Or.inr (Or.inl e))),
    h.ga,
    h.va⟩
theorem PS.setLd {s1 : Led.LS} (h : PS L0 i gv0 vv0 w0 ver L A gv s s' VL VA vv w) (hB : Blk w' i.lb s1.cs 82) (hc : Chg (fun k => k = i.lb) w w') : PS L0 i gv0 vv0 w0 ver L A gv s1 s' VL VA vv w' := by
  exact ⟨hc.blk h.box (fun e => by exact Blk.ne_t h.box h.ld (by decide) e),
    ⟨hc.blk h.gs.blk (fun e => by exact Blk.ne_t h.gs.blk h.ld (by decide) e), h.gs.map.same (hc.block _ h.gs.map.lt (fun e => by exact h.gs.map.ne_b h.ld e.symm))⟩,
    h.rg.keep (hc.block _ h.rg.blk.lt (fun e => by exact Blk.ne_t h.rg.blk h.ld (by decide) e)) (fun g hg => hc.block _ (ownsRow_lt h.rg.row hg).2 (fun e => by obtain ⟨c1, k1⟩ := ownsRow_type h.rg.row hg; exact Blk.ne_t (show Blk w g c1 127 from k1) h.ld (by decide) e)),
    hB,
    hc.blk h.rl (fun e => by exact Blk.ne_t h.rl h.ld (by decide) e),
    ⟨hc.blk h.vw.blk (fun e => by exact Blk.ne_t h.vw.blk h.ld (by decide) e), h.vw.map.same (hc.block _ h.vw.map.lt (fun e => by exact h.vw.map.ne_b h.ld e.symm))⟩,
    h.rv.keep (hc.block _ h.rv.blk.lt (fun e => by exact Blk.ne_t h.rv.blk h.ld (by decide) e)) (fun g hg => hc.block _ (ownsRow_lt h.rv.row hg).2 (fun e => by obtain ⟨c1, k1⟩ := ownsRow_type h.rv.row hg; exact Blk.ne_t (show Blk w g c1 150 from k1) h.ld (by decide) e)),
    h.ne,
    h.chg.trans hc (fun j hj e => Or.inr (Or.inr (Or.inr (Or.inl e)))),
    h.ga,
    h.va⟩
theorem PS.setRl {s1 : Led.LS} (h : PS L0 i gv0 vv0 w0 ver L A gv s s' VL VA vv w) (hB : Blk w' i.kb s1.cs 122) (hc : Chg (fun k => k = i.kb) w w') : PS L0 i gv0 vv0 w0 ver L A gv s s1 VL VA vv w' := by
  exact ⟨hc.blk h.box (fun e => by exact Blk.ne_t h.box h.rl (by decide) e),
    ⟨hc.blk h.gs.blk (fun e => by exact Blk.ne_t h.gs.blk h.rl (by decide) e), h.gs.map.same (hc.block _ h.gs.map.lt (fun e => by exact h.gs.map.ne_b h.rl e.symm))⟩,
    h.rg.keep (hc.block _ h.rg.blk.lt (fun e => by exact Blk.ne_t h.rg.blk h.rl (by decide) e)) (fun g hg => hc.block _ (ownsRow_lt h.rg.row hg).2 (fun e => by obtain ⟨c1, k1⟩ := ownsRow_type h.rg.row hg; exact Blk.ne_t (show Blk w g c1 127 from k1) h.rl (by decide) e)),
    hc.blk h.ld (fun e => by exact Blk.ne_t h.ld h.rl (by decide) e),
    hB,
    ⟨hc.blk h.vw.blk (fun e => by exact Blk.ne_t h.vw.blk h.rl (by decide) e), h.vw.map.same (hc.block _ h.vw.map.lt (fun e => by exact h.vw.map.ne_b h.rl e.symm))⟩,
    h.rv.keep (hc.block _ h.rv.blk.lt (fun e => by exact Blk.ne_t h.rv.blk h.rl (by decide) e)) (fun g hg => hc.block _ (ownsRow_lt h.rv.row hg).2 (fun e => by obtain ⟨c1, k1⟩ := ownsRow_type h.rv.row hg; exact Blk.ne_t (show Blk w g c1 150 from k1) h.rl (by decide) e)),
    h.ne,
    h.chg.trans hc (fun j hj e => Or.inr (Or.inr (Or.inr (Or.inr (Or.inr (Or.inr (Or.inr (Or.inl e)))))))),
    h.ga,
    h.va⟩
theorem PS.setV {VL' : List Ent} (h : PS L0 i gv0 vv0 w0 ver L A gv s s' VL VA vv w) (hV : Vw i.hb i.vb i.me i.N VL' w') (hc : Chg (fun k => k = i.vb) w w') : PS L0 i gv0 vv0 w0 ver L A gv s s' VL' VA vv w' := by
  exact ⟨hc.blk h.box (fun e => by exact h.vw.map.ne_b h.box e),
    ⟨hc.blk h.gs.blk (fun e => by exact h.vw.map.ne_b h.gs.blk e), h.gs.map.same (hc.block _ h.gs.map.lt (fun e => by exact (h.ne e)))⟩,
    h.rg.keep (hc.block _ h.rg.blk.lt (fun e => by exact h.vw.map.ne_b h.rg.blk e)) (fun g hg => hc.block _ (ownsRow_lt h.rg.row hg).2 (fun e => by obtain ⟨c1, k1⟩ := ownsRow_type h.rg.row hg; exact h.vw.map.ne_b (show Blk w g c1 127 from k1) e)),
    hc.blk h.ld (fun e => by exact h.vw.map.ne_b h.ld e),
    hc.blk h.rl (fun e => by exact h.vw.map.ne_b h.rl e),
    hV,
    h.rv.keep (hc.block _ h.rv.blk.lt (fun e => by exact h.vw.map.ne_b h.rv.blk e)) (fun g hg => hc.block _ (ownsRow_lt h.rv.row hg).2 (fun e => by obtain ⟨c1, k1⟩ := ownsRow_type h.rv.row hg; exact h.vw.map.ne_b (show Blk w g c1 150 from k1) e)),
    h.ne,
    h.chg.trans hc (fun j hj e => Or.inr (Or.inr (Or.inr (Or.inr (Or.inr (Or.inl e)))))),
    h.ga,
    h.va⟩
theorem PS.setR1 {A' : List RE} {gv' : Value} (h : PS L0 i gv0 vv0 w0 ver L A gv s s' VL VA vv w) (hR : RGs L0 i.qb i.me i.N gv' A' w') (hat : ∀ g, gv'.ownBlock = some g → gv.ownBlock = some g ∨ w.heap.size ≤ g) (hc : Chg (fun k => k = i.qb ∨ gv.ownBlock = some k) w w') : PS L0 i gv0 vv0 w0 ver L A' gv' s s' VL VA vv w' := by
  exact ⟨hc.blk h.box (fun e => by
      rcases e with e | e
      · exact Blk.ne_t h.box h.rg.blk (by decide) e
      · obtain ⟨c2, k2⟩ := ownsRow_type h.rg.row e; exact Blk.ne_t h.box (show Blk w _ c2 127 from k2) (by decide) rfl),
    ⟨hc.blk h.gs.blk (fun e => by
      rcases e with e | e
      · exact Blk.ne_t h.gs.blk h.rg.blk (by decide) e
      · obtain ⟨c2, k2⟩ := ownsRow_type h.rg.row e; exact Blk.ne_t h.gs.blk (show Blk w _ c2 127 from k2) (by decide) rfl), h.gs.map.same (hc.block _ h.gs.map.lt (fun e => by
      rcases e with e | e
      · exact h.gs.map.ne_b h.rg.blk e.symm
      · obtain ⟨c2, k2⟩ := ownsRow_type h.rg.row e; exact h.gs.map.ne_b (show Blk w _ c2 127 from k2) rfl))⟩,
    hR,
    hc.blk h.ld (fun e => by
      rcases e with e | e
      · exact Blk.ne_t h.ld h.rg.blk (by decide) e
      · obtain ⟨c2, k2⟩ := ownsRow_type h.rg.row e; exact Blk.ne_t h.ld (show Blk w _ c2 127 from k2) (by decide) rfl),
    hc.blk h.rl (fun e => by
      rcases e with e | e
      · exact Blk.ne_t h.rl h.rg.blk (by decide) e
      · obtain ⟨c2, k2⟩ := ownsRow_type h.rg.row e; exact Blk.ne_t h.rl (show Blk w _ c2 127 from k2) (by decide) rfl),
    ⟨hc.blk h.vw.blk (fun e => by
      rcases e with e | e
      · exact Blk.ne_t h.vw.blk h.rg.blk (by decide) e
      · obtain ⟨c2, k2⟩ := ownsRow_type h.rg.row e; exact Blk.ne_t h.vw.blk (show Blk w _ c2 127 from k2) (by decide) rfl), h.vw.map.same (hc.block _ h.vw.map.lt (fun e => by
      rcases e with e | e
      · exact h.vw.map.ne_b h.rg.blk e.symm
      · obtain ⟨c2, k2⟩ := ownsRow_type h.rg.row e; exact h.vw.map.ne_b (show Blk w _ c2 127 from k2) rfl))⟩,
    h.rv.keep (hc.block _ h.rv.blk.lt (fun e => by
      rcases e with e | e
      · exact Blk.ne_t h.rv.blk h.rg.blk (by decide) e
      · obtain ⟨c2, k2⟩ := ownsRow_type h.rg.row e; exact Blk.ne_t h.rv.blk (show Blk w _ c2 127 from k2) (by decide) rfl)) (fun g hg => hc.block _ (ownsRow_lt h.rv.row hg).2 (fun e => by
      rcases e with e | e
      · obtain ⟨c1, k1⟩ := ownsRow_type h.rv.row hg; exact Blk.ne_t (show Blk w g c1 150 from k1) h.rg.blk (by decide) e
      · obtain ⟨c2, k2⟩ := ownsRow_type h.rg.row e; obtain ⟨c1, k1⟩ := ownsRow_type h.rv.row hg; exact Blk.ne_t (show Blk w g c1 150 from k1) (show Blk w _ c2 127 from k2) (by decide) rfl)),
    h.ne,
    h.chg.trans hc (fun j hj e => e.elim (fun e => Or.inr (Or.inr (Or.inr (Or.inr (Or.inr (Or.inr (Or.inl e))))))) (fun e => (h.ga j e).elim (fun e => Or.inr (Or.inr (Or.inr (Or.inr (Or.inr (Or.inr (Or.inr (Or.inr (Or.inr (Or.inl e)))))))))) (fun e => absurd hj (Nat.not_lt.2 e)))),
    fun g hg => (hat g hg).elim (fun e => h.ga g e) (fun e => Or.inr (Nat.le_trans h.chg.size e)),
    h.va⟩
theorem PS.setRV1 {VA' : List Ent} {vv' : Value} (h : PS L0 i gv0 vv0 w0 ver L A gv s s' VL VA vv w) (hR : RVw L0 i.rb i.me i.N vv' VA' w') (hat : ∀ g, vv'.ownBlock = some g → vv.ownBlock = some g ∨ w.heap.size ≤ g) (hc : Chg (fun k => k = i.rb ∨ vv.ownBlock = some k) w w') : PS L0 i gv0 vv0 w0 ver L A gv s s' VL VA' vv' w' := by
  exact ⟨hc.blk h.box (fun e => by
      rcases e with e | e
      · exact Blk.ne_t h.box h.rv.blk (by decide) e
      · obtain ⟨c2, k2⟩ := ownsRow_type h.rv.row e; exact Blk.ne_t h.box (show Blk w _ c2 150 from k2) (by decide) rfl),
    ⟨hc.blk h.gs.blk (fun e => by
      rcases e with e | e
      · exact Blk.ne_t h.gs.blk h.rv.blk (by decide) e
      · obtain ⟨c2, k2⟩ := ownsRow_type h.rv.row e; exact Blk.ne_t h.gs.blk (show Blk w _ c2 150 from k2) (by decide) rfl), h.gs.map.same (hc.block _ h.gs.map.lt (fun e => by
      rcases e with e | e
      · exact h.gs.map.ne_b h.rv.blk e.symm
      · obtain ⟨c2, k2⟩ := ownsRow_type h.rv.row e; exact h.gs.map.ne_b (show Blk w _ c2 150 from k2) rfl))⟩,
    h.rg.keep (hc.block _ h.rg.blk.lt (fun e => by
      rcases e with e | e
      · exact Blk.ne_t h.rg.blk h.rv.blk (by decide) e
      · obtain ⟨c2, k2⟩ := ownsRow_type h.rv.row e; exact Blk.ne_t h.rg.blk (show Blk w _ c2 150 from k2) (by decide) rfl)) (fun g hg => hc.block _ (ownsRow_lt h.rg.row hg).2 (fun e => by
      rcases e with e | e
      · obtain ⟨c1, k1⟩ := ownsRow_type h.rg.row hg; exact Blk.ne_t (show Blk w g c1 127 from k1) h.rv.blk (by decide) e
      · obtain ⟨c2, k2⟩ := ownsRow_type h.rv.row e; obtain ⟨c1, k1⟩ := ownsRow_type h.rg.row hg; exact Blk.ne_t (show Blk w g c1 127 from k1) (show Blk w _ c2 150 from k2) (by decide) rfl)),
    hc.blk h.ld (fun e => by
      rcases e with e | e
      · exact Blk.ne_t h.ld h.rv.blk (by decide) e
      · obtain ⟨c2, k2⟩ := ownsRow_type h.rv.row e; exact Blk.ne_t h.ld (show Blk w _ c2 150 from k2) (by decide) rfl),
    hc.blk h.rl (fun e => by
      rcases e with e | e
      · exact Blk.ne_t h.rl h.rv.blk (by decide) e
      · obtain ⟨c2, k2⟩ := ownsRow_type h.rv.row e; exact Blk.ne_t h.rl (show Blk w _ c2 150 from k2) (by decide) rfl),
    ⟨hc.blk h.vw.blk (fun e => by
      rcases e with e | e
      · exact Blk.ne_t h.vw.blk h.rv.blk (by decide) e
      · obtain ⟨c2, k2⟩ := ownsRow_type h.rv.row e; exact Blk.ne_t h.vw.blk (show Blk w _ c2 150 from k2) (by decide) rfl), h.vw.map.same (hc.block _ h.vw.map.lt (fun e => by
      rcases e with e | e
      · exact h.vw.map.ne_b h.rv.blk e.symm
      · obtain ⟨c2, k2⟩ := ownsRow_type h.rv.row e; exact h.vw.map.ne_b (show Blk w _ c2 150 from k2) rfl))⟩,
    hR,
    h.ne,
    h.chg.trans hc (fun j hj e => e.elim (fun e => Or.inr (Or.inr (Or.inr (Or.inr (Or.inr (Or.inr (Or.inr (Or.inr (Or.inl e))))))))) (fun e => (h.va j e).elim (fun e => Or.inr (Or.inr (Or.inr (Or.inr (Or.inr (Or.inr (Or.inr (Or.inr (Or.inr (Or.inr (e))))))))))) (fun e => absurd hj (Nat.not_lt.2 e)))),
    h.ga,
    fun g hg => (hat g hg).elim (fun e => h.va g e) (fun e => Or.inr (Nat.le_trans h.chg.size e))⟩
end
end Go.Proofs.YtnphkmdanicemaaGreatDoor
namespace Go.Proofs.YtnphkmdanicemaaGreatDoor
open Go.RowKit Go.PlainAid Go.MapKept
set_option linter.unusedVariables false
set_option linter.unusedSimpArgs false
theorem build113 (e : Ent) (w : World) : (Instr.buildSlice 77 1 #[(0, viewV e)]).run Tryz.prog w = .ok (.slice (some ⟨w.heap.size, 0, none⟩) 1 1) (w.alloc (.cells e.cs7 105)) := by
  have hz : (zeroValue 105).run Tryz.prog w = .ok (.agg #[.string ⟨#[]⟩, .int .i64 0, .int .i64 0, .int .i64 0, .int .i64 0, .int .i64 0, .int .i64 0]) w := by kernel_rfl
  have hsz : (sizeOf 105).run Tryz.prog w = .ok 7 w := by kernel_rfl
  have hu : (underlying 77).run Tryz.prog w = .ok (.slice 105) w := by kernel_rfl
  simp [Instr.buildSlice, hz, hsz, hu, viewV, Ent.cs7]
  simp [go_sem]
theorem from_one (e : Ent) (w : World) : FromV (w.alloc (.cells e.cs7 105)) (some ⟨w.heap.size, 0, none⟩) [e] := by
  intro _
  refine ⟨_, _, rfl, ?_⟩
  intro i e' he
  cases i with
  | zero =>
    simp at he
    subst he
    have hB : Blk (w.alloc (.cells e.cs7 105)) w.heap.size e.cs7 105 := heap_alloc_new w _
    exact ⟨hB.cell 0, hB.cell 1, hB.cell 2, hB.cell 3, hB.cell 4, hB.cell 5, hB.cell 6⟩
  | succ j => simp at he
theorem zero86 (w : World) : (zeroValue 105).run Tryz.prog w = .ok (.agg zed.cs7) w := by kernel_rfl
theorem build86 (n : List UInt8) (c v d u : Int) (w : World) : (Instr.build 105 #[(0, .string ⟨n.toArray⟩), (1, .int .i64 c), (3, .int .i64 v), (4, .agg #[.int .i64 d, .int .i64 u])]).run Tryz.prog w = .ok (.agg (Ent.mk 0 n c 0 v d u 0).cs7) w := by
  kernel_rfl
theorem store_row {ev : Operand → Value} {o : Oper} {x y : Operand} {ty : TypeId} {W : World} {g : Nat} {cells old : Array Value} (ho : o.op = .store ty x y) (hx : ev x = .pointer (some ⟨g, 0, none⟩)) (hy : ev y = .agg cells) (hg : Blk W g old ty) (hi : (Tryz.prog.info? ty).map (·.size) = some cells.size) (hold : old.size = cells.size) (h1 : cells.all (·.oneCell') = true) : (execOp ev o).run Tryz.prog W = .ok .skip (W.setRow g cells) := by
  unfold execOp
  simp only [ho, hx, hy, Instr.storeAt, Instr.sureAddr, Sem.run_bind, Sem.run_pure, Result.andThen_ok, run_storeVar_row W g ty ty old cells hg hi hold h1]
def wx (x m : Int) : Int := (if x < 0 then -(x + 1) else x) % m
theorem wx_in (x m : Int) (h : 0 < m) : 0 ≤ wx x m ∧ wx x m < m := ⟨Int.emod_nonneg _ (by omega), Int.emod_lt_of_pos _ h⟩
set_option maxRecDepth 100000 in
set_option maxHeartbeats 1600000 in
theorem within_any (x lo hi : Int) (W : World) (h1 : -9223372036854775808 ≤ x) (h2 : x ≤ 9223372036854775807) (h3 : 0 ≤ lo) (h4 : lo ≤ hi) (h5 : hi ≤ 100000) :
    Calls Tryz.prog 6 #[.int .i64 x, .int .i64 lo, .int .i64 hi] W fun e w' => e = .returned (.int .i64 (lo + wx x (hi - lo + 1))) ∧ w' = W := by
  have hw1 : IntKind.i64.wrap (hi - lo) = hi - lo := by rw [IntKind.wrap_i64]; omega
  have hw2 : IntKind.i64.wrap (hi - lo + 1) = hi - lo + 1 := by rw [IntKind.wrap_i64]; omega
  have hin := wx_in x (hi - lo + 1) (by omega)
  have hnz : hi - lo + 1 ≠ 0 := by omega
  have hnzb : (hi - lo + 1 == 0) = false := by simpa using hnz
  have hw3 : IntKind.i64.wrap (lo + wx x (hi - lo + 1)) = lo + wx x (hi - lo + 1) := by rw [IntKind.wrap_i64]; omega
  by_cases hx : x < 0
  · have hw4 : IntKind.i64.wrap (x + 1) = x + 1 := by rw [IntKind.wrap_i64]; omega
    have hw5 : IntKind.i64.wrap (-(x + 1)) = -(x + 1) := by rw [IntKind.wrap_i64]; omega
    have hw6 : IntKind.i64.wrap ((-(x + 1)).tmod (hi - lo + 1)) = wx x (hi - lo + 1) := by
      have e : (-(x + 1)).tmod (hi - lo + 1) = wx x (hi - lo + 1) := by unfold wx; rw [if_pos hx, Int.tmod_eq_emod_of_nonneg (by omega)]
      rw [e, IntKind.wrap_i64]; omega
    have e9 : -((x + 1).tmod (hi - lo + 1)) = wx x (hi - lo + 1) := by rw [← Int.neg_tmod]; unfold wx; rw [if_pos hx, Int.tmod_eq_emod_of_nonneg (by omega)]
    have HE9 : Hid _ := e9
    have HW3 : Hid _ := hw3
    clear hin e9 hw3 hw6
    go_enter Tryz.func6, Tryz.ntmps6
    go_wp2_with fail
    go_ret
    refine ⟨ret_i64 ?_, rfl⟩
    rw [HE9.out]
    have := wx_in x (hi - lo + 1) (by omega)
    unfold wrap64
    omega
  · have hw6 : IntKind.i64.wrap (x.tmod (hi - lo + 1)) = wx x (hi - lo + 1) := by
      have e : x.tmod (hi - lo + 1) = wx x (hi - lo + 1) := by unfold wx; rw [if_neg hx, Int.tmod_eq_emod_of_nonneg (by omega)]
      rw [e, IntKind.wrap_i64]; omega
    have e9 : x % (hi - lo + 1) = wx x (hi - lo + 1) := by unfold wx; rw [if_neg hx]
    have HE9 : Hid _ := e9
    have HW3 : Hid _ := hw3
    clear hin e9 hw3 hw6
    go_enter Tryz.func6, Tryz.ntmps6
    go_wp2_with fail
    go_ret
    refine ⟨ret_i64 ?_, rfl⟩
    rw [HE9.out]
    have := wx_in x (hi - lo + 1) (by omega)
    unfold wrap64
    omega
structure PNew (i : PIx) (gv vv gv' vv' : Value) (w w' : World) : Prop where
  chg : Chg (ownQ i gv vv) w w'
  ga : ∀ g, gv'.ownBlock = some g → gv.ownBlock = some g ∨ w.heap.size ≤ g
  va : ∀ g, vv'.ownBlock = some g → vv.ownBlock = some g ∨ w.heap.size ≤ g
theorem PS.new {L0 : Nat} {i : PIx} {gv0 vv0 : Value} {w0 : World} {ver : Nat} {L : GL} {A : List RE} {gv : Value} {s s' : Led.LS} {VL VA : List Ent} {vv : Value} {w : World} (h : PS L0 i gv0 vv0 w0 ver L A gv s s' VL VA vv w) : PNew i gv0 vv0 gv vv w0 w := ⟨h.chg, h.ga, h.va⟩
theorem PNew.from {i : PIx} {gv vv gv' vv' : Value} {w w1 w' : World} (h : PNew i gv vv gv' vv' w1 w') (hb : Below w.heap.size w w1) : PNew i gv vv gv' vv' w w' :=
  ⟨(Chg.ofBelow _ hb).trans h.chg (fun _ _ e => e), fun g e => (h.ga g e).imp id (Nat.le_trans hb.size), fun g e => (h.va g e).imp id (Nat.le_trans hb.size)⟩
end Go.Proofs.YtnphkmdanicemaaGreatDoor
namespace Go.Proofs.YtnphkmdanicemaaGreatDoor
open Go.RowKit Go.PlainAid Go.MapKept
set_option linter.unusedVariables false
set_option linter.unusedSimpArgs false
theorem RVw.own_ne' {L rb : Nat} {me n : Int} {v : Value} {A : List Ent} {w : World} {b : Nat} {D : Array Value} {T : TypeId} (h : RVw L rb me n v A w) (hB : Blk w b D T) (hT : T ≠ 150) : v.ownBlock ≠ some b := fun hh => by
  obtain ⟨c2, k2⟩ := ownsRow_type h.row hh
  exact Blk.ne_t hB (show Blk w _ c2 150 from k2) hT rfl
set_option maxRecDepth 100000 in
set_option maxHeartbeats 6400000 in
theorem tells_take {L0 M : Nat} {i : PIx} {x : PVl} (kd wh a : Int) (n : List UInt8) (d u : Int) (w : World) (h : PI L0 M i x w) (hM : M ≤ 300) (hc : newCode i.me i.N = 0) (ha : -9223372036854775808 ≤ a ∧ a ≤ 9223372036854775807) (hn : n.length ≤ 140737488355328) (hd : -9223372036854775808 ≤ d ∧ d ≤ 9223372036854775807) (hu : -9223372036854775808 ≤ u ∧ u ≤ 9223372036854775807) (hr : wx a i.N ≠ i.me) :
    Calls Tryz.prog 38 #[.pointer (some ⟨i.pb, 0, none⟩), .agg #[.int .i64 kd, .int .i64 wh, .int .i64 a, .string ⟨n.toArray⟩, .int .i64 d, .int .i64 u]] w fun e w' => e = .returned (.bool true) ∧ ∃ vv', PI L0 (M + 1) i ⟨x.ver + 1, x.L, x.A, x.gv, x.s, (takeNext i.me i.N (wx a i.N) x.VL [⟨0, n, 1099511627776, 0, (x.ver + 1 : Nat), d, u, 0⟩]).1, (rtakeNext i.me i.N (wx a i.N) x.VA [⟨0, n, 1099511627776, 0, (x.ver + 1 : Nat), d, u, 0⟩]).1, vv'⟩ w' ∧ PNew i x.gv x.vv x.gv vv' w w' := by
  have hnc : ¬ (i.N : Int) < 2 ∧ ¬ 16 < (i.N : Int) := by
    unfold newCode at hc
    split at hc
    · cases hc
    · omega
  obtain ⟨r, hrr⟩ : ∃ r, r = wx a i.N := ⟨_, rfl⟩
  obtain ⟨Nn, hNn⟩ : ∃ Nn : Int, Nn = i.N := ⟨_, rfl⟩
  obtain ⟨N1, hN1'⟩ : ∃ N1 : Int, N1 = Nn - 1 := ⟨_, rfl⟩
  obtain ⟨v1, hv1⟩ : ∃ v1 : Int, v1 = ((x.ver + 1 : Nat) : Int) := ⟨_, rfl⟩
  obtain ⟨ev, hev⟩ : ∃ ev : Ent, ev = ⟨0, n, 1099511627776, 0, v1, d, u, 0⟩ := ⟨_, rfl⟩
  rw [← hv1, ← hrr, ← hev]
  rw [← hrr] at hr
  have hsn : ev.sane := by rw [hev]; exact ⟨hn, ⟨show (-9223372036854775808 : Int) ≤ 1099511627776 by decide, show (1099511627776 : Int) ≤ 9223372036854775807 by decide⟩, hd, hu⟩
  have hN1 : IntKind.i64.wrap (Nn - 1) = N1 := by rw [IntKind.wrap_i64]; omega
  have hwv : IntKind.i64.wrap ((x.ver : Int) + 1) = v1 := by rw [IntKind.wrap_i64]; have := h.ver; omega
  have HV2 : Hid ((x.ver : Int) + 1 = v1) := show (x.ver : Int) + 1 = v1 from by omega
  have hrm : (r == i.me) = false := by simpa using hr
  have HWI : Hid (∀ W, Calls Tryz.prog 6 #[.int .i64 a, .int .i64 0, .int .i64 N1] W fun e w' => e = .returned (.int .i64 r) ∧ w' = W) := fun W => by
    have := within_any a 0 N1 W ha.1 ha.2 (by omega) (by omega) (by omega)
    rw [show (0 : Int) + wx a (N1 - 0 + 1) = r from by rw [hrr, show N1 - 0 + 1 = (i.N : Int) by omega]; omega] at this
    exact this
  obtain ⟨t1, t2, t3, t4⟩ := h.ag.take i.N r [ev]
  have HT3 : Hid (AgC i.me M (takeNext i.me i.N r x.VL [ev]).1 (rtakeNext i.me i.N r x.VA [ev]).1) := t3
  have HT4 : Hid ((rtakeNext i.me i.N r x.VA [ev]).1.length ≤ x.VA.length + 64) := t4
  have hll := h.ag.ll
  have hal := h.al
  have HTK : Hid (∀ W ao, Vw i.hb i.vb i.me i.N x.VL W → FromV W ao [ev] → (∀ b off, ao = some ⟨b, off, none⟩ → b ≠ i.vb) → Calls Tryz.prog 26 #[.pointer (some ⟨i.hb, 0, none⟩), .int .i64 r, .slice ao 1 1] W fun q w' => q = .returned (.tuple #[.int .i64 ((rtakeNext i.me i.N r x.VA [ev]).2 : Nat), .int .i64 (rtakeCode i.me i.N r x.VA [ev])]) ∧ Vw i.hb i.vb i.me i.N (takeNext i.me i.N r x.VL [ev]).1 w' ∧ Chg (fun k => k = i.vb) W w') := fun W ao hV hf hfm => by
    have := take_any r ao 1 1 [ev] W hV (by omega) rfl (by decide) hf (by simpa using hsn) hfm
    rwa [t1, t2] at this
  have HRK : Hid (∀ W ao v, RVw L0 i.rb i.me i.N v x.VA W → FromV W ao [ev] → (∀ b off, ao = some ⟨b, off, none⟩ → b ≠ i.rb ∧ v.ownBlock ≠ some b) → Calls Tryz.prog 62 #[.pointer (some ⟨i.rb, 0, none⟩), .int .i64 r, .slice ao 1 1] W fun q w' => q = .returned (.tuple #[.int .i64 ((rtakeNext i.me i.N r x.VA [ev]).2 : Nat), .int .i64 (rtakeCode i.me i.N r x.VA [ev])]) ∧ RPost L0 i.rb i.me i.N v (rtakeNext i.me i.N r x.VA [ev]).1 W w') := fun W ao v hV hf hfm => rtake_any r ao 1 1 [ev] W hV (by omega) rfl (by decide) hf (by simpa using hsn) (fun _ => hfm)
  have HFIN : Hid (∀ w' vv', PS L0 i x.gv x.vv w (x.ver + 1) x.L x.A x.gv x.s x.s (takeNext i.me i.N r x.VL [ev]).1 (rtakeNext i.me i.N r x.VA [ev]).1 vv' w' → PI L0 (M + 1) i ⟨x.ver + 1, x.L, x.A, x.gv, x.s, (takeNext i.me i.N r x.VL [ev]).1, (rtakeNext i.me i.N r x.VA [ev]).1, vv'⟩ w') := fun w' vv' q => ⟨by have := q.box; unfold pbox at this; exact this, q.gs, q.rg, q.ld, q.rl, h.ok, q.vw, q.rv, t3.mono (Nat.le_succ _), by show (rtakeNext i.me i.N r x.VA [ev]).1.length ≤ 128 * (M + 1); omega, Nat.succ_le_succ h.ver, h.kd, h.lo', h.lg, Nat.le_succ_of_le h.gl, h.ne, h.lo⟩
  generalize (takeNext i.me i.N r x.VL [ev]).1 = VL1 at *
  generalize (rtakeNext i.me i.N r x.VA [ev]).1 = VA1 at *
  generalize ((rtakeNext i.me i.N r x.VA [ev]).2 : Int) = c8 at *
  generalize rtakeCode i.me i.N r x.VA [ev] = c9 at *
  obtain ⟨ob, hob⟩ : ∃ ob, ob = w.heap.size := ⟨_, rfl⟩
  obtain ⟨X, hX⟩ : ∃ X, X = w.alloc (.cells #[.int .i64 kd, .int .i64 wh, .int .i64 a, .string ⟨n.toArray⟩, .int .i64 d, .int .i64 u] 48) := ⟨_, rfl⟩
  have hbX : Below w.heap.size w X := by rw [hX]; exact (Below.refl _ _).alloc (Nat.le_refl _) _
  have HBO : Hid (Blk X ob #[.int .i64 kd, .int .i64 wh, .int .i64 a, .string ⟨n.toArray⟩, .int .i64 d, .int .i64 u] 48) := show Blk X ob #[.int .i64 kd, .int .i64 wh, .int .i64 a, .string ⟨n.toArray⟩, .int .i64 d, .int .i64 u] 48 from by rw [hX, hob]; exact heap_alloc_new w _
  have HS0 : Hid (PS L0 i x.gv x.vv w x.ver x.L x.A x.gv x.s x.s x.VL x.VA x.vv X) := h.ps.more hbX
  have x1 : X.cell? ⟨i.pb, 1, none⟩ = some (.int .i64 Nn) := by rw [hNn]; exact HS0.out.box.cell 1
  clear h hc hnc t1 t2 t3 t4 hll hal hsn hr hrr ha hn hd hu hbX hN1'
  go_enter Tryz.func38, Tryz.ntmps38
  go_upto_region 1 with fail
  rw [← hX, ← hob]
  clear hX hob
  go_wp2_with fail
  rename_i K hK
  try rw [show ∀ a : Act, a.put none undef = a from fun _ => rfl]
  refine wp_region_mix (fun wq => wq.cell? ⟨i.pb, 1, none⟩ = some (.int .i64 Nn) ∧ Blk wq ob #[.int .i64 kd, .int .i64 wh, .int .i64 a, .string ⟨n.toArray⟩, .int .i64 d, .int .i64 u] 48) (fun i => i == 7 || i == 99) 99 (by kernel_rfl) rfl (by kernel_rfl) (by kernel_rfl) (by kernel_rfl) ?_
  refine withFrP (N := 92) rfl ?_
  intro f0 F0 hff
  have ee0 : f0 0 = Value.pointer (some ⟨i.pb, 0, none⟩) := hff 0
  have ee3 : f0 3 = Value.pointer (some ⟨ob, 0, none⟩) := hff 3
  clear hff
  have HCC : (fun wq => wq.cell? ⟨i.pb, 1, none⟩ = some (.int .i64 Nn) ∧ Blk wq ob #[.int .i64 kd, .int .i64 wh, .int .i64 a, .string ⟨n.toArray⟩, .int .i64 d, .int .i64 u] 48) (({ X with drawn := X.drawn + 1 } : World)) := ⟨x1, HBO.out⟩
  refine lyp F0 rfl HCC rfl (by omega) (wanted_none rfl) (v := Value.pointer (some ⟨ob, 2, none⟩)) (fun wr hwr => by simp only [execOp, (F0.eval 3 (by omega)).trans (show _ = Value.pointer (some ⟨ob, 0, none⟩) from by simp [upd, ee0, ee3])]; simp [go_sem]) fun F1 => ?_
  refine lyp F1 rfl HCC rfl (by omega) (wanted_none rfl) (v := Value.int .i64 a) (fun wr hwr => by simp only [execOp, (F1.eval 12 (by omega)).trans (show _ = Value.pointer (some ⟨ob, 2, none⟩) from by simp [upd, ee0, ee3])]; simp [go_sem, show wr.cell? ⟨ob, 2, none⟩ = some (.int .i64 a) from hwr.2.cell 2]) fun F2 => ?_
  refine lyp F2 rfl HCC rfl (by omega) (wanted_none rfl) (v := Value.pointer (some ⟨i.pb, 0, none⟩)) (fun wr hwr => by simp only [execOp, (F2.eval 0 (by omega)).trans (show _ = Value.pointer (some ⟨i.pb, 0, none⟩) from by simp [upd, ee0, ee3])]; first | rfl | simp [go_sem]) fun F3 => ?_
  refine lyp F3 rfl HCC rfl (by omega) (wanted_none rfl) (v := Value.pointer (some ⟨i.pb, 0, none⟩)) (fun wr hwr => by simp only [execOp, (F3.eval 14 (by omega)).trans (show _ = Value.pointer (some ⟨i.pb, 0, none⟩) from by simp [upd, ee0, ee3])]; simp [go_sem]) fun F4 => ?_
  refine lyp F4 rfl HCC rfl (by omega) (wanted_none rfl) (v := Value.pointer (some ⟨i.pb, 1, none⟩)) (fun wr hwr => by simp only [execOp, (F4.eval 15 (by omega)).trans (show _ = Value.pointer (some ⟨i.pb, 0, none⟩) from by simp [upd, ee0, ee3])]; simp [go_sem]) fun F5 => ?_
  refine lyp F5 rfl HCC rfl (by omega) (wanted_none rfl) (v := Value.int .i64 Nn) (fun wr hwr => by simp only [execOp, (F5.eval 16 (by omega)).trans (show _ = Value.pointer (some ⟨i.pb, 1, none⟩) from by simp [upd, ee0, ee3])]; simp [go_sem, hwr.1]) fun F6 => ?_
  refine lyp F6 rfl HCC rfl (by omega) (wanted_none rfl) (v := Value.int .i64 N1) (fun wr hwr => by simp only [execOp, (F6.eval 17 (by omega)).trans (show _ = Value.int .i64 Nn from by simp [upd, ee0, ee3])]; simp [go_sem, Act.eval, hN1]) fun F7 => ?_
  refine lcp F7 rfl HCC rfl (by omega) (wanted_none rfl) (g := 6) (args := #[Value.int .i64 a, Value.int .i64 0, Value.int .i64 N1]) (by simp only [execOp, resolve, invoke, List.map_toArray, List.map_cons, List.map_nil, (F7.eval 13 (by omega)).trans (show _ = Value.int .i64 a from by simp [upd, ee0, ee3]), (F7.eval 18 (by omega)).trans (show _ = Value.int .i64 N1 from by simp [upd, ee0, ee3])]; simp [go_sem, Act.eval]) (HWI.out (({ X with drawn := X.drawn + 1 } : World))) ?_
  rintro e9 w2 ⟨rfl, hw2⟩
  refine ⟨_, rfl, fun F8 => ?_⟩
  have HC2 : (fun wq => wq.cell? ⟨i.pb, 1, none⟩ = some (.int .i64 Nn) ∧ Blk wq ob #[.int .i64 kd, .int .i64 wh, .int .i64 a, .string ⟨n.toArray⟩, .int .i64 d, .int .i64 u] 48) w2 := by rw [hw2]; exact HCC
  refine lyp F8 rfl HC2 rfl (by omega) (wanted_none rfl) (v := Value.int .i64 r) (fun wr hwr => by simp only [execOp, (F8.eval 19 (by omega)).trans (show _ = Value.int .i64 r from by simp [upd, ee0, ee3])]; first | rfl | simp [go_sem]) fun F9 => ?_
  refine ⟨fun _ => HC2, ?_⟩
  refine hK _ _ ?_
  clear F0 F1 F2 F3 F4 F5 F6 F7 F8 F9 ee0 ee3 HCC HC2
  simp only [Act.put, List.setIfInBounds_toArray, List.set_cons_succ, List.set_cons_zero]
  have hb2 : Below X.heap.size X w2 := by rw [hw2]; exact Below.drew (Below.refl _ _)
  have HS2 : Hid (PS L0 i x.gv x.vv w x.ver x.L x.A x.gv x.s x.s x.VL x.VA x.vv w2) := HS0.out.more hb2
  have HB2 : Hid (Blk w2 ob #[.int .i64 kd, .int .i64 wh, .int .i64 a, .string ⟨n.toArray⟩, .int .i64 d, .int .i64 u] 48) := HBO.out.below hb2 HBO.out.lt
  clear hb2 hw2 HS0 HBO x1 HWI
  have y0 : w2.cell? ⟨i.pb, 0, none⟩ = some (.int .i64 i.me) := HS2.out.box.cell 0
  have y2 : w2.cell? ⟨i.pb, 2, none⟩ = some (.int .i64 x.ver) := HS2.out.box.cell 2
  have yf : w2.frozen? ⟨i.pb, 2, none⟩ = false := HS2.out.box.frozen 2
  obtain ⟨Y, hY⟩ : ∃ Y, Y = w2.setCell ⟨i.pb, 2, none⟩ (.int .i64 v1) := ⟨_, rfl⟩
  have hcY : Chg (fun k => k = i.pb) w2 Y := by rw [hY]; exact setCell_chg w2 i.pb 2 (.int .i64 v1)
  have hBY : Blk Y i.pb (pbox i (x.ver + 1)) 56 := by
    rw [hY, hv1]
    exact HS2.out.box.set 2 (.int .i64 ((x.ver + 1 : Nat) : Int))
  have HSY : Hid (PS L0 i x.gv x.vv w (x.ver + 1) x.L x.A x.gv x.s x.s x.VL x.VA x.vv Y) := HS2.out.setver hBY hcY
  have HYO : Hid (Blk Y ob #[.int .i64 kd, .int .i64 wh, .int .i64 a, .string ⟨n.toArray⟩, .int .i64 d, .int .i64 u] 48) := hcY.blk HB2.out (Blk.ne_t HB2.out HS2.out.box (by decide))
  have HY2 : Hid (Y.cell? ⟨i.pb, 2, none⟩ = some (.int .i64 v1)) := show Y.cell? ⟨i.pb, 2, none⟩ = some (.int .i64 v1) from by rw [hv1]; exact hBY.cell 2
  clear hcY hBY HS2 HB2
  go_upto_region 6 with fail
  rw [HV2.out, ← hY]
  clear hY y0 y2 yf
  go_wp2_with fail
  rename_i K hK
  try rw [show ∀ a : Act, a.put none undef = a from fun _ => rfl]
  refine wp_region_mix (fun wq => wq.cell? ⟨i.pb, 2, none⟩ = some (.int .i64 v1) ∧ Blk wq ob #[.int .i64 kd, .int .i64 wh, .int .i64 a, .string ⟨n.toArray⟩, .int .i64 d, .int .i64 u] 48) (fun i => i == 9 || i == 10 || i == 99) 99 (by kernel_rfl) rfl (by kernel_rfl) (by kernel_rfl) (by kernel_rfl) ?_
  refine withFrP (N := 92) rfl ?_
  intro f0 F0 hff
  have ee0 : f0 0 = Value.pointer (some ⟨i.pb, 0, none⟩) := hff 0
  have ee3 : f0 3 = Value.pointer (some ⟨ob, 0, none⟩) := hff 3
  have ee5 : f0 5 = Value.int .i64 r := hff 5
  clear hff
  have HCC : (fun wq => wq.cell? ⟨i.pb, 2, none⟩ = some (.int .i64 v1) ∧ Blk wq ob #[.int .i64 kd, .int .i64 wh, .int .i64 a, .string ⟨n.toArray⟩, .int .i64 d, .int .i64 u] 48) (({ Y with drawn := Y.drawn + 1 } : World)) := ⟨HY2.out, HYO.out⟩
  refine lyp F0 rfl HCC rfl (by omega) (wanted_none rfl) (v := Value.pointer (some ⟨ob, 3, none⟩)) (fun wr hwr => by simp only [execOp, (F0.eval 3 (by omega)).trans (show _ = Value.pointer (some ⟨ob, 0, none⟩) from by simp [upd, ee0, ee3, ee5])]; simp [go_sem]) fun F1 => ?_
  refine lyp F1 rfl HCC rfl (by omega) (wanted_none rfl) (v := Value.string ⟨n.toArray⟩) (fun wr hwr => by simp only [execOp, (F1.eval 53 (by omega)).trans (show _ = Value.pointer (some ⟨ob, 3, none⟩) from by simp [upd, ee0, ee3, ee5])]; simp [go_sem, show wr.cell? ⟨ob, 3, none⟩ = some (.string ⟨n.toArray⟩) from hwr.2.cell 3]) fun F2 => ?_
  refine lyp F2 rfl HCC rfl (by omega) (wanted_none rfl) (v := Value.pointer (some ⟨i.pb, 0, none⟩)) (fun wr hwr => by simp only [execOp, (F2.eval 0 (by omega)).trans (show _ = Value.pointer (some ⟨i.pb, 0, none⟩) from by simp [upd, ee0, ee3, ee5])]; first | rfl | simp [go_sem]) fun F3 => ?_
  refine lyp F3 rfl HCC rfl (by omega) (wanted_none rfl) (v := Value.pointer (some ⟨i.pb, 0, none⟩)) (fun wr hwr => by simp only [execOp, (F3.eval 55 (by omega)).trans (show _ = Value.pointer (some ⟨i.pb, 0, none⟩) from by simp [upd, ee0, ee3, ee5])]; simp [go_sem]) fun F4 => ?_
  refine lyp F4 rfl HCC rfl (by omega) (wanted_none rfl) (v := Value.pointer (some ⟨i.pb, 2, none⟩)) (fun wr hwr => by simp only [execOp, (F4.eval 56 (by omega)).trans (show _ = Value.pointer (some ⟨i.pb, 0, none⟩) from by simp [upd, ee0, ee3, ee5])]; simp [go_sem]) fun F5 => ?_
  refine lyp F5 rfl HCC rfl (by omega) (wanted_none rfl) (v := Value.int .i64 v1) (fun wr hwr => by simp only [execOp, (F5.eval 57 (by omega)).trans (show _ = Value.pointer (some ⟨i.pb, 2, none⟩) from by simp [upd, ee0, ee3, ee5])]; simp [go_sem, hwr.1]) fun F6 => ?_
  refine lyp F6 rfl HCC rfl (by omega) (wanted_none rfl) (v := Value.pointer (some ⟨ob, 4, none⟩)) (fun wr hwr => by simp only [execOp, (F6.eval 3 (by omega)).trans (show _ = Value.pointer (some ⟨ob, 0, none⟩) from by simp [upd, ee0, ee3, ee5])]; simp [go_sem]) fun F7 => ?_
  refine lyp F7 rfl HCC rfl (by omega) (wanted_none rfl) (v := Value.agg #[.int .i64 d, .int .i64 u]) (fun wr hwr => by simp only [execOp, (F7.eval 59 (by omega)).trans (show _ = Value.pointer (some ⟨ob, 4, none⟩) from by simp [upd, ee0, ee3, ee5])]; simp [go_sem, show wr.cell? ⟨ob, 4, none⟩ = some (.int .i64 d) from hwr.2.cell 4, show wr.cell? ⟨ob, 5, none⟩ = some (.int .i64 u) from hwr.2.cell 5]) fun F8 => ?_
  refine lyp F8 rfl HCC rfl (by omega) (wanted_none rfl) (v := Value.agg (Ent.mk 0 n 1099511627776 0 v1 d u 0).cs7) (fun wr hwr => by simp only [execOp, List.map_toArray, List.map_cons, List.map_nil, (F8.eval 54 (by omega)).trans (show _ = Value.string ⟨n.toArray⟩ from by simp [upd, ee0, ee3, ee5]), (F8.eval 58 (by omega)).trans (show _ = Value.int .i64 v1 from by simp [upd, ee0, ee3, ee5]), (F8.eval 60 (by omega)).trans (show _ = Value.agg #[.int .i64 d, .int .i64 u] from by simp [upd, ee0, ee3, ee5])]; simp only [Act.eval, Sem.run_bind, Sem.run_pure, Result.andThen_ok, build86]; try rfl) fun F9 => ?_
  refine lep F9 rfl HCC rfl (by omega) (wanted_none rfl) (v := Value.pointer (some ⟨Y.heap.size, 0, none⟩)) (w1 := (({ Y with drawn := Y.drawn + 1 } : World)).alloc (.cells zed.cs7 105)) (by simp only [execOp]; simp [go_sem, zero86]; try rfl) fun F10 => ?_
  have hBz : Blk ((({ Y with drawn := Y.drawn + 1 } : World)).alloc (.cells zed.cs7 105)) Y.heap.size zed.cs7 105 := heap_alloc_new (({ Y with drawn := Y.drawn + 1 } : World)) _
  have hbz : Below Y.heap.size Y ((({ Y with drawn := Y.drawn + 1 } : World)).alloc (.cells zed.cs7 105)) := Below.alloc (Below.drew (Below.refl _ _)) (Nat.le_refl _) _
  have HC2 : (fun wq => wq.cell? ⟨i.pb, 2, none⟩ = some (.int .i64 v1) ∧ Blk wq ob #[.int .i64 kd, .int .i64 wh, .int .i64 a, .string ⟨n.toArray⟩, .int .i64 d, .int .i64 u] 48) ((({ Y with drawn := Y.drawn + 1 } : World)).alloc (.cells zed.cs7 105)) := ⟨cell_below hbz HY2.out, HYO.out.below hbz HYO.out.lt⟩
  obtain ⟨Z, hZ⟩ : ∃ Z, Z = ((({ Y with drawn := Y.drawn + 1 } : World)).alloc (.cells zed.cs7 105)).setRow Y.heap.size (Ent.mk 0 n 1099511627776 0 v1 d u 0).cs7 := ⟨_, rfl⟩
  have hBZ : Blk Z Y.heap.size (Ent.mk 0 n 1099511627776 0 v1 d u 0).cs7 105 := by rw [hZ]; exact setRow_heap _ _ _ _ 105 _ hBz
  have hbZ : Below Y.heap.size Y Z := by rw [hZ]; exact below_setRow hbz (Nat.le_refl _) _
  refine lst rfl HC2 rfl (wanted_none rfl) (w1 := Z) (by rw [hZ]; exact store_row rfl ((F10.eval 7 (by omega)).trans (show _ = Value.pointer (some ⟨Y.heap.size, 0, none⟩) from by simp [upd, ee0, ee3, ee5])) ((F10.eval 61 (by omega)).trans (show _ = Value.agg (Ent.mk 0 n 1099511627776 0 v1 d u 0).cs7 from by simp [upd, ee0, ee3, ee5])) hBz info46 rfl (cs7_one _)) ?_
  have HC3 : (fun wq => wq.cell? ⟨i.pb, 2, none⟩ = some (.int .i64 v1) ∧ Blk wq ob #[.int .i64 kd, .int .i64 wh, .int .i64 a, .string ⟨n.toArray⟩, .int .i64 d, .int .i64 u] 48) Z := ⟨cell_below hbZ HY2.out, HYO.out.below hbZ HYO.out.lt⟩
  refine ⟨fun _ => HC3, ?_⟩
  refine hK _ _ ?_
  clear F0 F1 F2 F3 F4 F5 F6 F7 F8 F9 F10 ee0 ee3 ee5 HCC HC2 HC3 hBz hbz hZ
  simp only [Act.put, List.setIfInBounds_toArray, List.set_cons_succ, List.set_cons_zero]
  rw [← hev] at hBZ ⊢
  have HSZ : Hid (PS L0 i x.gv x.vv w (x.ver + 1) x.L x.A x.gv x.s x.s x.VL x.VA x.vv Z) := HSY.out.more hbZ
  obtain ⟨yb, hyb⟩ : ∃ yb, yb = Y.heap.size := ⟨_, rfl⟩
  rw [← hyb] at hBZ ⊢
  have HBZ : Hid (Blk Z yb ev.cs7 105) := hBZ
  clear hbZ hBZ HSY HYO HY2 hyb hev
  go_wp2_with fail
  rename_i K hK
  try rw [show ∀ a : Act, a.put none undef = a from fun _ => rfl]
  refine wp_region_mix (fun wq => wq.cell? ⟨i.pb, 5, none⟩ = some (.pointer (some ⟨i.hb, 0, none⟩)) ∧ Blk wq yb ev.cs7 105) (fun i => i == 6 || i == 7 || i == 99) 99 (by kernel_rfl) rfl (by kernel_rfl) (by kernel_rfl) (by kernel_rfl) ?_
  refine withFrP (N := 92) rfl ?_
  intro f0 F0 hff
  have ee0 : f0 0 = Value.pointer (some ⟨i.pb, 0, none⟩) := hff 0
  have ee3 : f0 3 = Value.pointer (some ⟨ob, 0, none⟩) := hff 3
  have ee5 : f0 5 = Value.int .i64 r := hff 5
  have ee7 : f0 7 = Value.pointer (some ⟨yb, 0, none⟩) := hff 7
  clear hff
  have HCC : (fun wq => wq.cell? ⟨i.pb, 5, none⟩ = some (.pointer (some ⟨i.hb, 0, none⟩)) ∧ Blk wq yb ev.cs7 105) (({ Z with drawn := Z.drawn + 1 } : World)) := ⟨HSZ.out.box.cell 5, HBZ.out⟩
  refine lyp F0 rfl HCC rfl (by omega) (wanted_none rfl) (v := Value.pointer (some ⟨i.pb, 0, none⟩)) (fun wr hwr => by simp only [execOp, (F0.eval 0 (by omega)).trans (show _ = Value.pointer (some ⟨i.pb, 0, none⟩) from by simp [upd, ee0, ee3, ee5, ee7])]; first | rfl | simp [go_sem]) fun F1 => ?_
  refine lyp F1 rfl HCC rfl (by omega) (wanted_none rfl) (v := Value.pointer (some ⟨i.pb, 0, none⟩)) (fun wr hwr => by simp only [execOp, (F1.eval 63 (by omega)).trans (show _ = Value.pointer (some ⟨i.pb, 0, none⟩) from by simp [upd, ee0, ee3, ee5, ee7])]; simp [go_sem]) fun F2 => ?_
  refine lyp F2 rfl HCC rfl (by omega) (wanted_none rfl) (v := Value.pointer (some ⟨i.pb, 5, none⟩)) (fun wr hwr => by simp only [execOp, (F2.eval 64 (by omega)).trans (show _ = Value.pointer (some ⟨i.pb, 0, none⟩) from by simp [upd, ee0, ee3, ee5, ee7])]; simp [go_sem]) fun F3 => ?_
  refine lyp F3 rfl HCC rfl (by omega) (wanted_none rfl) (v := Value.pointer (some ⟨i.hb, 0, none⟩)) (fun wr hwr => by simp only [execOp, (F3.eval 65 (by omega)).trans (show _ = Value.pointer (some ⟨i.pb, 5, none⟩) from by simp [upd, ee0, ee3, ee5, ee7])]; simp [go_sem, hwr.1]) fun F4 => ?_
  refine lyp F4 rfl HCC rfl (by omega) (wanted_none rfl) (v := Value.int .i64 r) (fun wr hwr => by simp only [execOp, (F4.eval 5 (by omega)).trans (show _ = Value.int .i64 r from by simp [upd, ee0, ee3, ee5, ee7])]; first | rfl | simp [go_sem]) fun F5 => ?_
  refine lyp F5 rfl HCC rfl (by omega) (wanted_none rfl) (v := viewV ev) (fun wr hwr => by simp only [execOp, (F5.eval 7 (by omega)).trans (show _ = Value.pointer (some ⟨yb, 0, none⟩) from by simp [upd, ee0, ee3, ee5, ee7])]; simp [go_sem, viewV, (show wr.cell? ⟨yb, 0, none⟩ = some (.string ⟨ev.n.toArray⟩) from hwr.2.cell 0), (show wr.cell? ⟨yb, 1, none⟩ = some (.int .i64 ev.c) from hwr.2.cell 1), (show wr.cell? ⟨yb, 2, none⟩ = some (.int .i64 ev.rc) from hwr.2.cell 2), (show wr.cell? ⟨yb, 3, none⟩ = some (.int .i64 ev.v) from hwr.2.cell 3), (show wr.cell? ⟨yb, 4, none⟩ = some (.int .i64 ev.d) from hwr.2.cell 4), (show wr.cell? ⟨yb, 5, none⟩ = some (.int .i64 ev.u) from hwr.2.cell 5), (show wr.cell? ⟨yb, 6, none⟩ = some (.int .i64 ev.h) from hwr.2.cell 6)]) fun F6 => ?_
  refine lep F6 rfl HCC rfl (by omega) (wanted_none rfl) (v := Value.slice (some ⟨Z.heap.size, 0, none⟩) 1 1) (w1 := (({ Z with drawn := Z.drawn + 1 } : World)).alloc (.cells ev.cs7 105)) (by simp only [execOp, List.map_toArray, List.map_cons, List.map_nil, (F6.eval 68 (by omega)).trans (show _ = viewV ev from by simp [upd, ee0, ee3, ee5, ee7])]; simp only [Sem.run_bind, Sem.run_pure, Result.andThen_ok, build113]; try rfl) fun F7 => ?_
  have hbA : Below Z.heap.size Z ((({ Z with drawn := Z.drawn + 1 } : World)).alloc (.cells ev.cs7 105)) := Below.alloc (Below.drew (Below.refl _ _)) (Nat.le_refl _) _
  have HSA := HSZ.out.more hbA
  have hyA := HCC.2.below (show Below (({ Z with drawn := Z.drawn + 1 } : World)).heap.size (({ Z with drawn := Z.drawn + 1 } : World)) ((({ Z with drawn := Z.drawn + 1 } : World)).alloc (.cells ev.cs7 105)) from Below.alloc (Below.refl _ _) (Nat.le_refl _) _) HCC.2.lt
  have HC2 : (fun wq => wq.cell? ⟨i.pb, 5, none⟩ = some (.pointer (some ⟨i.hb, 0, none⟩)) ∧ Blk wq yb ev.cs7 105) ((({ Z with drawn := Z.drawn + 1 } : World)).alloc (.cells ev.cs7 105)) := ⟨HSA.box.cell 5, hyA⟩
  have hfA : FromV ((({ Z with drawn := Z.drawn + 1 } : World)).alloc (.cells ev.cs7 105)) (some ⟨Z.heap.size, 0, none⟩) [ev] := from_one ev (({ Z with drawn := Z.drawn + 1 } : World))
  refine lcp F7 rfl HC2 rfl (by omega) (wanted_none rfl) (g := 26) (args := #[Value.pointer (some ⟨i.hb, 0, none⟩), Value.int .i64 r, Value.slice (some ⟨Z.heap.size, 0, none⟩) 1 1]) (by simp only [execOp, resolve, invoke, List.map_toArray, List.map_cons, List.map_nil, (F7.eval 66 (by omega)).trans (show _ = Value.pointer (some ⟨i.hb, 0, none⟩) from by simp [upd, ee0, ee3, ee5, ee7]), (F7.eval 67 (by omega)).trans (show _ = Value.int .i64 r from by simp [upd, ee0, ee3, ee5, ee7]), (F7.eval 69 (by omega)).trans (show _ = Value.slice (some ⟨Z.heap.size, 0, none⟩) 1 1 from by simp [upd, ee0, ee3, ee5, ee7])]; simp [go_sem, Act.eval]) (HTK.out ((({ Z with drawn := Z.drawn + 1 } : World)).alloc (.cells ev.cs7 105)) (some ⟨Z.heap.size, 0, none⟩) HSA.vw hfA (fun b off e => by cases e; exact fun e2 => Nat.lt_irrefl Z.heap.size (by have h9 := HSZ.out.vw.map.lt; rw [← e2] at h9; exact h9))) ?_
  rintro e9 w3 ⟨rfl, hV3, hc3⟩
  refine ⟨_, rfl, fun F8 => ?_⟩
  have HS3 := HSA.setV hV3 hc3
  have hy3 : Blk w3 yb ev.cs7 105 := hc3.blk hyA (HSA.vw.map.ne_b hyA)
  have HC3 : (fun wq => wq.cell? ⟨i.pb, 5, none⟩ = some (.pointer (some ⟨i.hb, 0, none⟩)) ∧ Blk wq yb ev.cs7 105) w3 := ⟨HS3.box.cell 5, hy3⟩
  refine lyp F8 rfl HC3 rfl (by omega) (wanted_none rfl) (v := Value.tuple #[.int .i64 c8, .int .i64 c9]) (fun wr hwr => by simp only [execOp, (F8.eval 70 (by omega)).trans (show _ = Value.tuple #[.int .i64 c8, .int .i64 c9] from by simp [upd, ee0, ee3, ee5, ee7])]; first | rfl | simp [go_sem]) fun F9 => ?_
  refine lyp F9 rfl HC3 rfl (by omega) (wanted_none rfl) (v := Value.int .i64 c8) (fun wr hwr => by simp only [execOp, (F9.eval 62 (by omega)).trans (show _ = Value.tuple #[.int .i64 c8, .int .i64 c9] from by simp [upd, ee0, ee3, ee5, ee7])]; simp [go_sem]) fun F10 => ?_
  refine lyp F10 rfl HC3 rfl (by omega) (wanted_none rfl) (v := Value.int .i64 c9) (fun wr hwr => by simp only [execOp, (F10.eval 62 (by omega)).trans (show _ = Value.tuple #[.int .i64 c8, .int .i64 c9] from by simp [upd, ee0, ee3, ee5, ee7])]; simp [go_sem]) fun F11 => ?_
  refine lyp F11 rfl HC3 rfl (by omega) (wanted_none rfl) (v := Value.int .i64 c8) (fun wr hwr => by simp only [execOp, (F11.eval 71 (by omega)).trans (show _ = Value.int .i64 c8 from by simp [upd, ee0, ee3, ee5, ee7])]; first | rfl | simp [go_sem]) fun F12 => ?_
  refine lyp F12 rfl HC3 rfl (by omega) (wanted_none rfl) (v := Value.int .i64 c9) (fun wr hwr => by simp only [execOp, (F12.eval 72 (by omega)).trans (show _ = Value.int .i64 c9 from by simp [upd, ee0, ee3, ee5, ee7])]; first | rfl | simp [go_sem]) fun F13 => ?_
  refine ⟨fun _ => HC3, ?_⟩
  refine hK _ _ ?_
  clear F0 F1 F2 F3 F4 F5 F6 F7 F8 F9 F10 F11 F12 F13 ee0 ee3 ee5 ee7 HCC HC2 HC3 hyA hfA HSA hbA hV3 hc3
  simp only [Act.put, List.setIfInBounds_toArray, List.set_cons_succ, List.set_cons_zero]
  have HS8 : Hid (PS L0 i x.gv x.vv w (x.ver + 1) x.L x.A x.gv x.s x.s VL1 x.VA x.vv w3) := HS3
  have HB8 : Hid (Blk w3 yb ev.cs7 105) := hy3
  clear HS3 hy3 HSZ HBZ HTK
  go_wp2_with fail
  rename_i K hK
  try rw [show ∀ a : Act, a.put none undef = a from fun _ => rfl]
  refine wp_region_mix (fun wq => wq.cell? ⟨i.pb, 8, none⟩ = some (.pointer (some ⟨i.rb, 0, none⟩)) ∧ Blk wq yb ev.cs7 105) (fun i => i == 6 || i == 7 || i == 99) 99 (by kernel_rfl) rfl (by kernel_rfl) (by kernel_rfl) (by kernel_rfl) ?_
  refine withFrP (N := 92) rfl ?_
  intro f0 F0 hff
  have ee0 : f0 0 = Value.pointer (some ⟨i.pb, 0, none⟩) := hff 0
  have ee3 : f0 3 = Value.pointer (some ⟨ob, 0, none⟩) := hff 3
  have ee5 : f0 5 = Value.int .i64 r := hff 5
  have ee7 : f0 7 = Value.pointer (some ⟨yb, 0, none⟩) := hff 7
  have ee8 : f0 8 = Value.int .i64 c8 := hff 8
  have ee9 : f0 9 = Value.int .i64 c9 := hff 9
  clear hff
  have HCC : (fun wq => wq.cell? ⟨i.pb, 8, none⟩ = some (.pointer (some ⟨i.rb, 0, none⟩)) ∧ Blk wq yb ev.cs7 105) (({ w3 with drawn := w3.drawn + 1 } : World)) := ⟨HS8.out.box.cell 8, HB8.out⟩
  refine lyp F0 rfl HCC rfl (by omega) (wanted_none rfl) (v := Value.pointer (some ⟨i.pb, 0, none⟩)) (fun wr hwr => by simp only [execOp, (F0.eval 0 (by omega)).trans (show _ = Value.pointer (some ⟨i.pb, 0, none⟩) from by simp [upd, ee0, ee3, ee5, ee7, ee8, ee9])]; first | rfl | simp [go_sem]) fun F1 => ?_
  refine lyp F1 rfl HCC rfl (by omega) (wanted_none rfl) (v := Value.pointer (some ⟨i.pb, 0, none⟩)) (fun wr hwr => by simp only [execOp, (F1.eval 74 (by omega)).trans (show _ = Value.pointer (some ⟨i.pb, 0, none⟩) from by simp [upd, ee0, ee3, ee5, ee7, ee8, ee9])]; simp [go_sem]) fun F2 => ?_
  refine lyp F2 rfl HCC rfl (by omega) (wanted_none rfl) (v := Value.pointer (some ⟨i.pb, 8, none⟩)) (fun wr hwr => by simp only [execOp, (F2.eval 75 (by omega)).trans (show _ = Value.pointer (some ⟨i.pb, 0, none⟩) from by simp [upd, ee0, ee3, ee5, ee7, ee8, ee9])]; simp [go_sem]) fun F3 => ?_
  refine lyp F3 rfl HCC rfl (by omega) (wanted_none rfl) (v := Value.pointer (some ⟨i.rb, 0, none⟩)) (fun wr hwr => by simp only [execOp, (F3.eval 76 (by omega)).trans (show _ = Value.pointer (some ⟨i.pb, 8, none⟩) from by simp [upd, ee0, ee3, ee5, ee7, ee8, ee9])]; simp [go_sem, hwr.1]) fun F4 => ?_
  refine lyp F4 rfl HCC rfl (by omega) (wanted_none rfl) (v := Value.int .i64 r) (fun wr hwr => by simp only [execOp, (F4.eval 5 (by omega)).trans (show _ = Value.int .i64 r from by simp [upd, ee0, ee3, ee5, ee7, ee8, ee9])]; first | rfl | simp [go_sem]) fun F5 => ?_
  refine lyp F5 rfl HCC rfl (by omega) (wanted_none rfl) (v := viewV ev) (fun wr hwr => by simp only [execOp, (F5.eval 7 (by omega)).trans (show _ = Value.pointer (some ⟨yb, 0, none⟩) from by simp [upd, ee0, ee3, ee5, ee7, ee8, ee9])]; simp [go_sem, viewV, (show wr.cell? ⟨yb, 0, none⟩ = some (.string ⟨ev.n.toArray⟩) from hwr.2.cell 0), (show wr.cell? ⟨yb, 1, none⟩ = some (.int .i64 ev.c) from hwr.2.cell 1), (show wr.cell? ⟨yb, 2, none⟩ = some (.int .i64 ev.rc) from hwr.2.cell 2), (show wr.cell? ⟨yb, 3, none⟩ = some (.int .i64 ev.v) from hwr.2.cell 3), (show wr.cell? ⟨yb, 4, none⟩ = some (.int .i64 ev.d) from hwr.2.cell 4), (show wr.cell? ⟨yb, 5, none⟩ = some (.int .i64 ev.u) from hwr.2.cell 5), (show wr.cell? ⟨yb, 6, none⟩ = some (.int .i64 ev.h) from hwr.2.cell 6)]) fun F6 => ?_
  refine lep F6 rfl HCC rfl (by omega) (wanted_none rfl) (v := Value.slice (some ⟨w3.heap.size, 0, none⟩) 1 1) (w1 := (({ w3 with drawn := w3.drawn + 1 } : World)).alloc (.cells ev.cs7 105)) (by simp only [execOp, List.map_toArray, List.map_cons, List.map_nil, (F6.eval 79 (by omega)).trans (show _ = viewV ev from by simp [upd, ee0, ee3, ee5, ee7, ee8, ee9])]; simp only [Sem.run_bind, Sem.run_pure, Result.andThen_ok, build113]; try rfl) fun F7 => ?_
  have hbA : Below w3.heap.size w3 ((({ w3 with drawn := w3.drawn + 1 } : World)).alloc (.cells ev.cs7 105)) := Below.alloc (Below.drew (Below.refl _ _)) (Nat.le_refl _) _
  have HSA := HS8.out.more hbA
  have hyA := HCC.2.below (show Below (({ w3 with drawn := w3.drawn + 1 } : World)).heap.size (({ w3 with drawn := w3.drawn + 1 } : World)) ((({ w3 with drawn := w3.drawn + 1 } : World)).alloc (.cells ev.cs7 105)) from Below.alloc (Below.refl _ _) (Nat.le_refl _) _) HCC.2.lt
  have HC2 : (fun wq => wq.cell? ⟨i.pb, 8, none⟩ = some (.pointer (some ⟨i.rb, 0, none⟩)) ∧ Blk wq yb ev.cs7 105) ((({ w3 with drawn := w3.drawn + 1 } : World)).alloc (.cells ev.cs7 105)) := ⟨HSA.box.cell 8, hyA⟩
  have hfA : FromV ((({ w3 with drawn := w3.drawn + 1 } : World)).alloc (.cells ev.cs7 105)) (some ⟨w3.heap.size, 0, none⟩) [ev] := from_one ev (({ w3 with drawn := w3.drawn + 1 } : World))
  refine lcp F7 rfl HC2 rfl (by omega) (wanted_none rfl) (g := 62) (args := #[Value.pointer (some ⟨i.rb, 0, none⟩), Value.int .i64 r, Value.slice (some ⟨w3.heap.size, 0, none⟩) 1 1]) (by simp only [execOp, resolve, invoke, List.map_toArray, List.map_cons, List.map_nil, (F7.eval 77 (by omega)).trans (show _ = Value.pointer (some ⟨i.rb, 0, none⟩) from by simp [upd, ee0, ee3, ee5, ee7, ee8, ee9]), (F7.eval 78 (by omega)).trans (show _ = Value.int .i64 r from by simp [upd, ee0, ee3, ee5, ee7, ee8, ee9]), (F7.eval 80 (by omega)).trans (show _ = Value.slice (some ⟨w3.heap.size, 0, none⟩) 1 1 from by simp [upd, ee0, ee3, ee5, ee7, ee8, ee9])]; simp [go_sem, Act.eval]) (HRK.out ((({ w3 with drawn := w3.drawn + 1 } : World)).alloc (.cells ev.cs7 105)) (some ⟨w3.heap.size, 0, none⟩) x.vv HSA.rv hfA (fun b off e => by cases e; exact ⟨fun e2 => Nat.lt_irrefl w3.heap.size (by have h9 := HS8.out.rv.blk.lt; rw [← e2] at h9; exact h9), fun e2 => Nat.lt_irrefl w3.heap.size (ownsRow_lt HS8.out.rv.row e2).2⟩)) ?_
  rintro e9 w4 ⟨rfl, hP3⟩
  refine ⟨_, rfl, fun F8 => ?_⟩
  obtain ⟨⟨vv', hR3, hat3⟩, hc3⟩ := hP3
  have HS3 := HSA.setRV1 hR3 hat3 hc3
  have hy3 : Blk w4 yb ev.cs7 105 := hc3.blk hyA (fun e => e.elim (fun e => Blk.ne_t hyA HSA.rv.blk (by decide) e) (fun e => HSA.rv.own_ne' hyA (by decide) e))
  have HC3 : (fun wq => wq.cell? ⟨i.pb, 8, none⟩ = some (.pointer (some ⟨i.rb, 0, none⟩)) ∧ Blk wq yb ev.cs7 105) w4 := ⟨HS3.box.cell 8, hy3⟩
  refine lyp F8 rfl HC3 rfl (by omega) (wanted_none rfl) (v := Value.tuple #[.int .i64 c8, .int .i64 c9]) (fun wr hwr => by simp only [execOp, (F8.eval 81 (by omega)).trans (show _ = Value.tuple #[.int .i64 c8, .int .i64 c9] from by simp [upd, ee0, ee3, ee5, ee7, ee8, ee9])]; first | rfl | simp [go_sem]) fun F9 => ?_
  refine lyp F9 rfl HC3 rfl (by omega) (wanted_none rfl) (v := Value.int .i64 c8) (fun wr hwr => by simp only [execOp, (F9.eval 73 (by omega)).trans (show _ = Value.tuple #[.int .i64 c8, .int .i64 c9] from by simp [upd, ee0, ee3, ee5, ee7, ee8, ee9])]; simp [go_sem]) fun F10 => ?_
  refine lyp F10 rfl HC3 rfl (by omega) (wanted_none rfl) (v := Value.int .i64 c9) (fun wr hwr => by simp only [execOp, (F10.eval 73 (by omega)).trans (show _ = Value.tuple #[.int .i64 c8, .int .i64 c9] from by simp [upd, ee0, ee3, ee5, ee7, ee8, ee9])]; simp [go_sem]) fun F11 => ?_
  refine lyp F11 rfl HC3 rfl (by omega) (wanted_none rfl) (v := Value.int .i64 c8) (fun wr hwr => by simp only [execOp, (F11.eval 82 (by omega)).trans (show _ = Value.int .i64 c8 from by simp [upd, ee0, ee3, ee5, ee7, ee8, ee9])]; first | rfl | simp [go_sem]) fun F12 => ?_
  refine lyp F12 rfl HC3 rfl (by omega) (wanted_none rfl) (v := Value.int .i64 c9) (fun wr hwr => by simp only [execOp, (F12.eval 83 (by omega)).trans (show _ = Value.int .i64 c9 from by simp [upd, ee0, ee3, ee5, ee7, ee8, ee9])]; first | rfl | simp [go_sem]) fun F13 => ?_
  refine ⟨fun _ => HC3, ?_⟩
  refine hK _ _ ?_
  clear F0 F1 F2 F3 F4 F5 F6 F7 F8 F9 F10 F11 F12 F13 ee0 ee3 ee5 ee7 ee8 ee9 HCC HC2 HC3 hyA hfA HSA hbA hR3 hat3 hc3
  simp only [Act.put, List.setIfInBounds_toArray, List.set_cons_succ, List.set_cons_zero]
  have HS9 : Hid (PS L0 i x.gv x.vv w (x.ver + 1) x.L x.A x.gv x.s x.s VL1 VA1 vv' w4) := HS3
  clear HS3 hy3 HS8 HB8 HRK
  go_wp2_with fail
  go_ret
  exact ⟨rfl, vv', HFIN.out _ _ HS9.out, HS9.out.new⟩
end Go.Proofs.YtnphkmdanicemaaGreatDoor
namespace Go.Proofs.YtnphkmdanicemaaGreatDoor
open Go.RowKit Go.PlainAid Go.MapKept
set_option linter.unusedVariables false
set_option linter.unusedSimpArgs false
theorem rlk_app (m : List UInt8) (A : List RE) (e : RE) : rlk m (A ++ [e]) = rlkS m (rlk m A) e := by simp [rlk]
theorem need_lg {L : GL} {A : List RE} (k : List UInt8) (d u : Int) (h : ∀ m, lk m L = rlk m A) (m : List UInt8) : lk m (needN k d u L) = rlk m (rneedN k d u A) := by
  rw [lk_need]
  unfold rneedN
  by_cases ho : okC d = true ∧ okC u = true
  · rw [if_pos ho, rlk_app, ← h]
    unfold rlkS
    by_cases hk : m = k
    · rw [if_pos ⟨hk, ho⟩, if_pos ⟨hk.symm, rfl⟩]
    · rw [if_neg (fun e => hk e.1), if_neg (fun e => hk e.1.symm)]
  · rw [if_neg ho, if_neg (fun e => ho e.2), h]
theorem okC_yes {k : Int} (h : okC k = true) : 0 ≤ k ∧ k ≤ 1099511627776 := by simpa [okC] using h
theorem need_ok {L : GL} (k : List UInt8) (d u : Int) (h : ∀ m, okR (lk m L)) (m : List UInt8) : okR (lk m (needN k d u L)) := by
  rw [lk_need]
  split
  · rename_i hq
    have h1 := okC_yes hq.2.1
    have h2 := okC_yes hq.2.2
    obtain ⟨⟨a1, a2⟩, a3, a4⟩ := h m
    unfold okR
    simp only
    omega
  · exact h m
theorem rneed_len (k : List UInt8) (d u : Int) (A : List RE) : (rneedN k d u A).length ≤ A.length + 1 := by
  unfold rneedN
  split
  · simp
  · omega
set_option maxRecDepth 100000 in
set_option maxHeartbeats 6400000 in
theorem played_1 {L0 M : Nat} {i : PIx} {x : PVl} (kd wh a : Int) (n : List UInt8) (d u : Int) (w : World) (h : PI L0 M i x w) (hM : M ≤ 300) (hn : n.length ≤ 140737488355328) (hk : kd = 1) :
    Calls Tryz.prog 13 #[.pointer (some ⟨i.pb, 0, none⟩), .agg #[.int .i64 kd, .int .i64 wh, .int .i64 a, .string ⟨n.toArray⟩, .int .i64 d, .int .i64 u]] w fun e w' => e = .returned (.bool true) ∧ ∃ gv', PI L0 (M + 1) i ⟨x.ver, needN n d u x.L, rneedN n d u x.A, gv', x.s, x.VL, x.VA, x.vv⟩ w' ∧ PNew i x.gv x.vv gv' x.vv w w' := by
  obtain ⟨ob, hob⟩ : ∃ ob, ob = w.heap.size := ⟨_, rfl⟩
  obtain ⟨X, hX⟩ : ∃ X, X = w.alloc (.cells #[.int .i64 kd, .int .i64 wh, .int .i64 a, .string ⟨n.toArray⟩, .int .i64 d, .int .i64 u] 48) := ⟨_, rfl⟩
  have hbX : Below w.heap.size w X := by rw [hX]; exact (Below.refl _ _).alloc (Nat.le_refl _) _
  have HBX : Hid (Below w.heap.size w X) := hbX
  have HBO : Hid (Blk X ob #[.int .i64 kd, .int .i64 wh, .int .i64 a, .string ⟨n.toArray⟩, .int .i64 d, .int .i64 u] 48) := show Blk X ob #[.int .i64 kd, .int .i64 wh, .int .i64 a, .string ⟨n.toArray⟩, .int .i64 d, .int .i64 u] 48 from by rw [hX, hob]; exact heap_alloc_new w _
  have HS0 : Hid (PS L0 i x.gv x.vv w x.ver x.L x.A x.gv x.s x.s x.VL x.VA x.vv X) := h.ps.more hbX
  have x0 : X.cell? ⟨ob, 0, none⟩ = some (.int .i64 kd) := HBO.out.cell 0
  have hgl := h.gl
  have HND : Hid (∀ W, Gs i.gb i.mb i.me i.N x.L W → _) := fun W hG => need_any n d u W hG (by omega)
  have HRN : Hid (∀ W, RGs L0 i.qb i.me i.N x.gv x.A W → _) := fun W hG => rneed_any n d u W hG (by omega)
  have HFIN : Hid (∀ w' gv', PS L0 i x.gv x.vv w x.ver (needN n d u x.L) (rneedN n d u x.A) gv' x.s x.s x.VL x.VA x.vv w' → PI L0 (M + 1) i ⟨x.ver, needN n d u x.L, rneedN n d u x.A, gv', x.s, x.VL, x.VA, x.vv⟩ w') := fun w' gv' q => ⟨by have := q.box; unfold pbox at this; exact this, q.gs, q.rg, q.ld, q.rl, h.ok, q.vw, q.rv, h.ag.mono (Nat.le_succ _), by show x.VA.length ≤ 128 * (M + 1); have := h.al; omega, Nat.le_succ_of_le h.ver, need_kd h.kd, need_ok n d u h.lo', need_lg n d u h.lg, by show (rneedN n d u x.A).length ≤ M + 1; have := rneed_len n d u x.A; omega, h.ne, h.lo⟩
  generalize needN n d u x.L = L1 at *
  generalize rneedN n d u x.A = A1 at *
  subst hk
  clear h hgl hn hbX
  go_enter Tryz.func13, Tryz.ntmps13
  go_upto_region 1 with fail
  rw [← hX, ← hob]
  clear hX hob
  go_wp2_with fail
  rename_i K hK
  try rw [show ∀ a : Act, a.put none undef = a from fun _ => rfl]
  refine wp_region_mix (fun wq => wq.cell? ⟨i.pb, 3, none⟩ = some (.pointer (some ⟨i.gb, 0, none⟩)) ∧ Blk wq ob #[.int .i64 1, .int .i64 wh, .int .i64 a, .string ⟨n.toArray⟩, .int .i64 d, .int .i64 u] 48) (fun i => i == 8 || i == 99) 99 (by kernel_rfl) rfl (by kernel_rfl) (by kernel_rfl) (by kernel_rfl) ?_
  refine withFrP (N := 133) rfl ?_
  intro f0 F0 hff
  have ee0 : f0 0 = Value.pointer (some ⟨i.pb, 0, none⟩) := hff 0
  have ee3 : f0 3 = Value.pointer (some ⟨ob, 0, none⟩) := hff 3
  clear hff
  have HCC : (fun wq => wq.cell? ⟨i.pb, 3, none⟩ = some (.pointer (some ⟨i.gb, 0, none⟩)) ∧ Blk wq ob #[.int .i64 1, .int .i64 wh, .int .i64 a, .string ⟨n.toArray⟩, .int .i64 d, .int .i64 u] 48) (({ X with drawn := X.drawn + 1 } : World)) := ⟨HS0.out.box.cell 3, HBO.out⟩
  have HSD := HS0.out.more (show Below X.heap.size X (({ X with drawn := X.drawn + 1 } : World)) from Below.drew (Below.refl _ _))
  have hoD : Blk (({ X with drawn := X.drawn + 1 } : World)) ob #[.int .i64 1, .int .i64 wh, .int .i64 a, .string ⟨n.toArray⟩, .int .i64 d, .int .i64 u] 48 := HBO.out
  refine lyp F0 rfl HCC rfl (by omega) (wanted_none rfl) (v := Value.pointer (some ⟨i.pb, 0, none⟩)) (fun wr hwr => by simp only [execOp, (F0.eval 0 (by omega)).trans (show _ = Value.pointer (some ⟨i.pb, 0, none⟩) from by simp [upd, ee0, ee3])]; first | rfl | simp [go_sem]) fun F1 => ?_
  refine lyp F1 rfl HCC rfl (by omega) (wanted_none rfl) (v := Value.pointer (some ⟨i.pb, 0, none⟩)) (fun wr hwr => by simp only [execOp, (F1.eval 12 (by omega)).trans (show _ = Value.pointer (some ⟨i.pb, 0, none⟩) from by simp [upd, ee0, ee3])]; simp [go_sem]) fun F2 => ?_
  refine lyp F2 rfl HCC rfl (by omega) (wanted_none rfl) (v := Value.pointer (some ⟨i.pb, 3, none⟩)) (fun wr hwr => by simp only [execOp, (F2.eval 13 (by omega)).trans (show _ = Value.pointer (some ⟨i.pb, 0, none⟩) from by simp [upd, ee0, ee3])]; simp [go_sem]) fun F3 => ?_
  refine lyp F3 rfl HCC rfl (by omega) (wanted_none rfl) (v := Value.pointer (some ⟨i.gb, 0, none⟩)) (fun wr hwr => by simp only [execOp, (F3.eval 14 (by omega)).trans (show _ = Value.pointer (some ⟨i.pb, 3, none⟩) from by simp [upd, ee0, ee3])]; simp [go_sem, hwr.1]) fun F4 => ?_
  refine lyp F4 rfl HCC rfl (by omega) (wanted_none rfl) (v := Value.pointer (some ⟨ob, 3, none⟩)) (fun wr hwr => by simp only [execOp, (F4.eval 3 (by omega)).trans (show _ = Value.pointer (some ⟨ob, 0, none⟩) from by simp [upd, ee0, ee3])]; simp [go_sem]) fun F5 => ?_
  refine lyp F5 rfl HCC rfl (by omega) (wanted_none rfl) (v := Value.string ⟨n.toArray⟩) (fun wr hwr => by simp only [execOp, (F5.eval 16 (by omega)).trans (show _ = Value.pointer (some ⟨ob, 3, none⟩) from by simp [upd, ee0, ee3])]; simp [go_sem, show wr.cell? ⟨ob, 3, none⟩ = some (.string ⟨n.toArray⟩) from hwr.2.cell 3]) fun F6 => ?_
  refine lyp F6 rfl HCC rfl (by omega) (wanted_none rfl) (v := Value.pointer (some ⟨ob, 4, none⟩)) (fun wr hwr => by simp only [execOp, (F6.eval 3 (by omega)).trans (show _ = Value.pointer (some ⟨ob, 0, none⟩) from by simp [upd, ee0, ee3])]; simp [go_sem]) fun F7 => ?_
  refine lyp F7 rfl HCC rfl (by omega) (wanted_none rfl) (v := Value.agg #[.int .i64 d, .int .i64 u]) (fun wr hwr => by simp only [execOp, (F7.eval 18 (by omega)).trans (show _ = Value.pointer (some ⟨ob, 4, none⟩) from by simp [upd, ee0, ee3])]; simp [go_sem, show wr.cell? ⟨ob, 4, none⟩ = some (.int .i64 d) from hwr.2.cell 4, show wr.cell? ⟨ob, 5, none⟩ = some (.int .i64 u) from hwr.2.cell 5]) fun F8 => ?_
  refine lcp F8 rfl HCC rfl (by omega) (wanted_none rfl) (g := 8) (args := #[Value.pointer (some ⟨i.gb, 0, none⟩), Value.string ⟨n.toArray⟩, Value.agg #[.int .i64 d, .int .i64 u]]) (by simp only [execOp, resolve, invoke, List.map_toArray, List.map_cons, List.map_nil, (F8.eval 15 (by omega)).trans (show _ = Value.pointer (some ⟨i.gb, 0, none⟩) from by simp [upd, ee0, ee3]), (F8.eval 17 (by omega)).trans (show _ = Value.string ⟨n.toArray⟩ from by simp [upd, ee0, ee3]), (F8.eval 19 (by omega)).trans (show _ = Value.agg #[.int .i64 d, .int .i64 u] from by simp [upd, ee0, ee3])]; simp [go_sem, Act.eval]) (HND.out (({ X with drawn := X.drawn + 1 } : World)) HSD.gs) ?_
  rintro e9 w2 ⟨rfl, hG2, hc2⟩
  refine ⟨_, rfl, fun F9 => ?_⟩
  -- TAG:w2
  have HSE := HSD.setG hG2 hc2
  have hoE : Blk w2 ob #[.int .i64 1, .int .i64 wh, .int .i64 a, .string ⟨n.toArray⟩, .int .i64 d, .int .i64 u] 48 := hc2.blk hoD (HSD.gs.map.ne_b hoD)
  have HC2 : (fun wq => wq.cell? ⟨i.pb, 3, none⟩ = some (.pointer (some ⟨i.gb, 0, none⟩)) ∧ Blk wq ob #[.int .i64 1, .int .i64 wh, .int .i64 a, .string ⟨n.toArray⟩, .int .i64 d, .int .i64 u] 48) w2 := ⟨HSE.box.cell 3, hoE⟩
  refine ⟨fun _ => HC2, ?_⟩
  first | refine hK _ _ ?_ | skip
  clear F0 F1 F2 F3 F4 F5 F6 F7 F8 F9 ee0 ee3 HCC HC2 HSD hoD hG2 hc2
  simp only [Act.put, List.setIfInBounds_toArray, List.set_cons_succ, List.set_cons_zero]
  have HS2 : Hid (PS L0 i x.gv x.vv w x.ver L1 x.A x.gv x.s x.s x.VL x.VA x.vv w2) := HSE
  have HB2 : Hid (Blk w2 ob #[.int .i64 1, .int .i64 wh, .int .i64 a, .string ⟨n.toArray⟩, .int .i64 d, .int .i64 u] 48) := hoE
  clear HSE hoE HND HS0 HBO x0
  go_wp2_with fail
  rename_i K hK
  try rw [show ∀ a : Act, a.put none undef = a from fun _ => rfl]
  refine wp_region_mix (fun wq => wq.cell? ⟨i.pb, 6, none⟩ = some (.pointer (some ⟨i.qb, 0, none⟩)) ∧ Blk wq ob #[.int .i64 1, .int .i64 wh, .int .i64 a, .string ⟨n.toArray⟩, .int .i64 d, .int .i64 u] 48) (fun i => i == 8 || i == 99) 99 (by kernel_rfl) rfl (by kernel_rfl) (by kernel_rfl) (by kernel_rfl) ?_
  refine withFrP (N := 133) rfl ?_
  intro f0 F0 hff
  have ee0 : f0 0 = Value.pointer (some ⟨i.pb, 0, none⟩) := hff 0
  have ee3 : f0 3 = Value.pointer (some ⟨ob, 0, none⟩) := hff 3
  clear hff
  have HCC : (fun wq => wq.cell? ⟨i.pb, 6, none⟩ = some (.pointer (some ⟨i.qb, 0, none⟩)) ∧ Blk wq ob #[.int .i64 1, .int .i64 wh, .int .i64 a, .string ⟨n.toArray⟩, .int .i64 d, .int .i64 u] 48) (({ w2 with drawn := w2.drawn + 1 } : World)) := ⟨HS2.out.box.cell 6, HB2.out⟩
  have HSD := HS2.out.more (show Below w2.heap.size w2 (({ w2 with drawn := w2.drawn + 1 } : World)) from Below.drew (Below.refl _ _))
  have hoD : Blk (({ w2 with drawn := w2.drawn + 1 } : World)) ob #[.int .i64 1, .int .i64 wh, .int .i64 a, .string ⟨n.toArray⟩, .int .i64 d, .int .i64 u] 48 := HB2.out
  refine lyp F0 rfl HCC rfl (by omega) (wanted_none rfl) (v := Value.pointer (some ⟨i.pb, 0, none⟩)) (fun wr hwr => by simp only [execOp, (F0.eval 0 (by omega)).trans (show _ = Value.pointer (some ⟨i.pb, 0, none⟩) from by simp [upd, ee0, ee3])]; first | rfl | simp [go_sem]) fun F1 => ?_
  refine lyp F1 rfl HCC rfl (by omega) (wanted_none rfl) (v := Value.pointer (some ⟨i.pb, 0, none⟩)) (fun wr hwr => by simp only [execOp, (F1.eval 21 (by omega)).trans (show _ = Value.pointer (some ⟨i.pb, 0, none⟩) from by simp [upd, ee0, ee3])]; simp [go_sem]) fun F2 => ?_
  refine lyp F2 rfl HCC rfl (by omega) (wanted_none rfl) (v := Value.pointer (some ⟨i.pb, 6, none⟩)) (fun wr hwr => by simp only [execOp, (F2.eval 22 (by omega)).trans (show _ = Value.pointer (some ⟨i.pb, 0, none⟩) from by simp [upd, ee0, ee3])]; simp [go_sem]) fun F3 => ?_
  refine lyp F3 rfl HCC rfl (by omega) (wanted_none rfl) (v := Value.pointer (some ⟨i.qb, 0, none⟩)) (fun wr hwr => by simp only [execOp, (F3.eval 23 (by omega)).trans (show _ = Value.pointer (some ⟨i.pb, 6, none⟩) from by simp [upd, ee0, ee3])]; simp [go_sem, hwr.1]) fun F4 => ?_
  refine lyp F4 rfl HCC rfl (by omega) (wanted_none rfl) (v := Value.pointer (some ⟨ob, 3, none⟩)) (fun wr hwr => by simp only [execOp, (F4.eval 3 (by omega)).trans (show _ = Value.pointer (some ⟨ob, 0, none⟩) from by simp [upd, ee0, ee3])]; simp [go_sem]) fun F5 => ?_
  refine lyp F5 rfl HCC rfl (by omega) (wanted_none rfl) (v := Value.string ⟨n.toArray⟩) (fun wr hwr => by simp only [execOp, (F5.eval 25 (by omega)).trans (show _ = Value.pointer (some ⟨ob, 3, none⟩) from by simp [upd, ee0, ee3])]; simp [go_sem, show wr.cell? ⟨ob, 3, none⟩ = some (.string ⟨n.toArray⟩) from hwr.2.cell 3]) fun F6 => ?_
  refine lyp F6 rfl HCC rfl (by omega) (wanted_none rfl) (v := Value.pointer (some ⟨ob, 4, none⟩)) (fun wr hwr => by simp only [execOp, (F6.eval 3 (by omega)).trans (show _ = Value.pointer (some ⟨ob, 0, none⟩) from by simp [upd, ee0, ee3])]; simp [go_sem]) fun F7 => ?_
  refine lyp F7 rfl HCC rfl (by omega) (wanted_none rfl) (v := Value.agg #[.int .i64 d, .int .i64 u]) (fun wr hwr => by simp only [execOp, (F7.eval 27 (by omega)).trans (show _ = Value.pointer (some ⟨ob, 4, none⟩) from by simp [upd, ee0, ee3])]; simp [go_sem, show wr.cell? ⟨ob, 4, none⟩ = some (.int .i64 d) from hwr.2.cell 4, show wr.cell? ⟨ob, 5, none⟩ = some (.int .i64 u) from hwr.2.cell 5]) fun F8 => ?_
  refine lcp F8 rfl HCC rfl (by omega) (wanted_none rfl) (g := 30) (args := #[Value.pointer (some ⟨i.qb, 0, none⟩), Value.string ⟨n.toArray⟩, Value.agg #[.int .i64 d, .int .i64 u]]) (by simp only [execOp, resolve, invoke, List.map_toArray, List.map_cons, List.map_nil, (F8.eval 24 (by omega)).trans (show _ = Value.pointer (some ⟨i.qb, 0, none⟩) from by simp [upd, ee0, ee3]), (F8.eval 26 (by omega)).trans (show _ = Value.string ⟨n.toArray⟩ from by simp [upd, ee0, ee3]), (F8.eval 28 (by omega)).trans (show _ = Value.agg #[.int .i64 d, .int .i64 u] from by simp [upd, ee0, ee3])]; simp [go_sem, Act.eval]) (HRN.out (({ w2 with drawn := w2.drawn + 1 } : World)) HSD.rg) ?_
  rintro e9 w4 ⟨rfl, ⟨gv', hR4, hat4⟩, hc4⟩
  refine ⟨_, rfl, fun F9 => ?_⟩
  -- TAG:w4
  have HSE := HSD.setR1 hR4 hat4 hc4
  have hoE : Blk w4 ob #[.int .i64 1, .int .i64 wh, .int .i64 a, .string ⟨n.toArray⟩, .int .i64 d, .int .i64 u] 48 := hc4.blk hoD (fun e => e.elim (fun e => Blk.ne_t hoD HSD.rg.blk (by decide) e) (fun e => HSD.rg.own_ne hoD (by decide) e))
  have HC2 : (fun wq => wq.cell? ⟨i.pb, 6, none⟩ = some (.pointer (some ⟨i.qb, 0, none⟩)) ∧ Blk wq ob #[.int .i64 1, .int .i64 wh, .int .i64 a, .string ⟨n.toArray⟩, .int .i64 d, .int .i64 u] 48) w4 := ⟨HSE.box.cell 6, hoE⟩
  refine ⟨fun _ => HC2, ?_⟩
  first | refine hK _ _ ?_ | skip
  clear F0 F1 F2 F3 F4 F5 F6 F7 F8 F9 ee0 ee3 HCC HC2 HSD hoD hR4 hat4 hc4
  simp only [Act.put, List.setIfInBounds_toArray, List.set_cons_succ, List.set_cons_zero]
  have HS9 : Hid (PS L0 i x.gv x.vv w x.ver L1 A1 gv' x.s x.s x.VL x.VA x.vv w4) := HSE
  clear HSE hoE HRN HS2 HB2
  go_wp2_with fail
  go_ret
  exact ⟨rfl, gv', HFIN.out _ _ HS9.out, HS9.out.new⟩
set_option maxRecDepth 100000 in
set_option maxHeartbeats 6400000 in
theorem played_5 {S : Led.Sens} {Ls L0 M : Nat} {i : PIx} {x : PVl} (kd wh a : Int) (n : List UInt8) (d u : Int) (w : World) (h : PI L0 M i x w) (hS : Led.Sen S Ls w) (hL : Ls ≤ L0) (hd : IntKind.i64.wrap d = d) (hu : IntKind.i64.wrap u = u) (hk : kd = 5) :
    Calls Tryz.prog 13 #[.pointer (some ⟨i.pb, 0, none⟩), .agg #[.int .i64 kd, .int .i64 wh, .int .i64 a, .string ⟨n.toArray⟩, .int .i64 d, .int .i64 u]] w fun e w' => e = .returned (.bool true) ∧ PI L0 (M + 1) i ⟨x.ver, x.L, x.A, x.gv, x.s.inext d u, x.VL, x.VA, x.vv⟩ w' ∧ PNew i x.gv x.vv x.gv x.vv w w' := by
  obtain ⟨ob, hob⟩ : ∃ ob, ob = w.heap.size := ⟨_, rfl⟩
  obtain ⟨X, hX⟩ : ∃ X, X = w.alloc (.cells #[.int .i64 kd, .int .i64 wh, .int .i64 a, .string ⟨n.toArray⟩, .int .i64 d, .int .i64 u] 48) := ⟨_, rfl⟩
  have hbX : Below w.heap.size w X := by rw [hX]; exact (Below.refl _ _).alloc (Nat.le_refl _) _
  have HBX : Hid (Below w.heap.size w X) := hbX
  have HBO : Hid (Blk X ob #[.int .i64 kd, .int .i64 wh, .int .i64 a, .string ⟨n.toArray⟩, .int .i64 d, .int .i64 u] 48) := show Blk X ob #[.int .i64 kd, .int .i64 wh, .int .i64 a, .string ⟨n.toArray⟩, .int .i64 d, .int .i64 u] 48 from by rw [hX, hob]; exact heap_alloc_new w _
  have HS0 : Hid (PS L0 i x.gv x.vv w x.ver x.L x.A x.gv x.s x.s x.VL x.VA x.vv X) := h.ps.more hbX
  have x0 : X.cell? ⟨ob, 0, none⟩ = some (.int .i64 kd) := HBO.out.cell 0
  have hlo := h.lo
  have hLw : Ls ≤ w.heap.size := by have := h.box.lt; omega
  have HIN : Hid (∀ W, Below X.heap.size X W → Blk W i.lb x.s.cs 82 → Calls Tryz.prog 19 #[.pointer (some ⟨i.lb, 0, none⟩), .agg #[.int .i64 d, .int .i64 u]] W fun r w' => r = .returned (.int .i64 (x.s.icode d u)) ∧ Blk w' i.lb (x.s.inext d u).cs 82 ∧ Led.Stq i.lb W w') := fun W hb hB => Led.in_any W (hS.below ((hbX.trans (hb.mono hbX.size)).mono hLw)) hB h.ok (by omega) d u hd hu
  have HRI : Hid (∀ W, Blk W i.kb x.s.cs 122 → Calls Tryz.prog 35 #[.pointer (some ⟨i.kb, 0, none⟩), .agg #[.int .i64 d, .int .i64 u]] W fun r w' => r = .returned (.int .i64 (x.s.icode d u)) ∧ Blk w' i.kb (x.s.inext d u).cs 122 ∧ Led.Stq i.kb W w') := fun W hB => Led.rin_any W hB h.ok d u hd hu
  have HFIN : Hid (∀ w', PS L0 i x.gv x.vv w x.ver x.L x.A x.gv (x.s.inext d u) (x.s.inext d u) x.VL x.VA x.vv w' → PI L0 (M + 1) i ⟨x.ver, x.L, x.A, x.gv, x.s.inext d u, x.VL, x.VA, x.vv⟩ w') := fun w' q => ⟨by have := q.box; unfold pbox at this; exact this, q.gs, q.rg, q.ld, q.rl, Led.LS.inext_ok _ h.ok d u, q.vw, q.rv, h.ag.mono (Nat.le_succ _), by show x.VA.length ≤ 128 * (M + 1); have := h.al; omega, Nat.le_succ_of_le h.ver, h.kd, h.lo', h.lg, Nat.le_succ_of_le h.gl, h.ne, h.lo⟩
  generalize x.s.inext d u = s1 at *
  generalize x.s.icode d u = cd at *
  subst hk
  clear h hS hL hlo hLw hbX hd hu
  go_enter Tryz.func13, Tryz.ntmps13
  go_upto_region 1 with fail
  rw [← hX, ← hob]
  clear hX hob
  go_wp2_with fail
  rename_i K hK
  try rw [show ∀ a : Act, a.put none undef = a from fun _ => rfl]
  refine wp_region_mix (fun wq => wq.cell? ⟨i.pb, 4, none⟩ = some (.pointer (some ⟨i.lb, 0, none⟩)) ∧ Blk wq ob #[.int .i64 5, .int .i64 wh, .int .i64 a, .string ⟨n.toArray⟩, .int .i64 d, .int .i64 u] 48) (fun i => i == 6 || i == 99) 99 (by kernel_rfl) rfl (by kernel_rfl) (by kernel_rfl) (by kernel_rfl) ?_
  refine withFrP (N := 133) rfl ?_
  intro f0 F0 hff
  have ee0 : f0 0 = Value.pointer (some ⟨i.pb, 0, none⟩) := hff 0
  have ee3 : f0 3 = Value.pointer (some ⟨ob, 0, none⟩) := hff 3
  clear hff
  have HCC : (fun wq => wq.cell? ⟨i.pb, 4, none⟩ = some (.pointer (some ⟨i.lb, 0, none⟩)) ∧ Blk wq ob #[.int .i64 5, .int .i64 wh, .int .i64 a, .string ⟨n.toArray⟩, .int .i64 d, .int .i64 u] 48) (({ X with drawn := X.drawn + 1 } : World)) := ⟨HS0.out.box.cell 4, HBO.out⟩
  have HSD := HS0.out.more (show Below X.heap.size X (({ X with drawn := X.drawn + 1 } : World)) from Below.drew (Below.refl _ _))
  have hoD : Blk (({ X with drawn := X.drawn + 1 } : World)) ob #[.int .i64 5, .int .i64 wh, .int .i64 a, .string ⟨n.toArray⟩, .int .i64 d, .int .i64 u] 48 := HBO.out
  refine lyp F0 rfl HCC rfl (by omega) (wanted_none rfl) (v := Value.pointer (some ⟨i.pb, 0, none⟩)) (fun wr hwr => by simp only [execOp, (F0.eval 0 (by omega)).trans (show _ = Value.pointer (some ⟨i.pb, 0, none⟩) from by simp [upd, ee0, ee3])]; first | rfl | simp [go_sem]) fun F1 => ?_
  refine lyp F1 rfl HCC rfl (by omega) (wanted_none rfl) (v := Value.pointer (some ⟨i.pb, 0, none⟩)) (fun wr hwr => by simp only [execOp, (F1.eval 94 (by omega)).trans (show _ = Value.pointer (some ⟨i.pb, 0, none⟩) from by simp [upd, ee0, ee3])]; simp [go_sem]) fun F2 => ?_
  refine lyp F2 rfl HCC rfl (by omega) (wanted_none rfl) (v := Value.pointer (some ⟨i.pb, 4, none⟩)) (fun wr hwr => by simp only [execOp, (F2.eval 95 (by omega)).trans (show _ = Value.pointer (some ⟨i.pb, 0, none⟩) from by simp [upd, ee0, ee3])]; simp [go_sem]) fun F3 => ?_
  refine lyp F3 rfl HCC rfl (by omega) (wanted_none rfl) (v := Value.pointer (some ⟨i.lb, 0, none⟩)) (fun wr hwr => by simp only [execOp, (F3.eval 96 (by omega)).trans (show _ = Value.pointer (some ⟨i.pb, 4, none⟩) from by simp [upd, ee0, ee3])]; simp [go_sem, hwr.1]) fun F4 => ?_
  refine lyp F4 rfl HCC rfl (by omega) (wanted_none rfl) (v := Value.pointer (some ⟨ob, 4, none⟩)) (fun wr hwr => by simp only [execOp, (F4.eval 3 (by omega)).trans (show _ = Value.pointer (some ⟨ob, 0, none⟩) from by simp [upd, ee0, ee3])]; simp [go_sem]) fun F5 => ?_
  refine lyp F5 rfl HCC rfl (by omega) (wanted_none rfl) (v := Value.agg #[.int .i64 d, .int .i64 u]) (fun wr hwr => by simp only [execOp, (F5.eval 98 (by omega)).trans (show _ = Value.pointer (some ⟨ob, 4, none⟩) from by simp [upd, ee0, ee3])]; simp [go_sem, show wr.cell? ⟨ob, 4, none⟩ = some (.int .i64 d) from hwr.2.cell 4, show wr.cell? ⟨ob, 5, none⟩ = some (.int .i64 u) from hwr.2.cell 5]) fun F6 => ?_
  refine lcp F6 rfl HCC rfl (by omega) (wanted_none rfl) (g := 19) (args := #[Value.pointer (some ⟨i.lb, 0, none⟩), Value.agg #[.int .i64 d, .int .i64 u]]) (by simp only [execOp, resolve, invoke, List.map_toArray, List.map_cons, List.map_nil, (F6.eval 97 (by omega)).trans (show _ = Value.pointer (some ⟨i.lb, 0, none⟩) from by simp [upd, ee0, ee3]), (F6.eval 99 (by omega)).trans (show _ = Value.agg #[.int .i64 d, .int .i64 u] from by simp [upd, ee0, ee3])]; simp [go_sem, Act.eval]) (HIN.out (({ X with drawn := X.drawn + 1 } : World)) (Below.drew (Below.refl X.heap.size X)) HSD.ld) ?_
  rintro e9 w2 ⟨rfl, hG2, hc2⟩
  refine ⟨_, rfl, fun F7 => ?_⟩
  -- TAG:w2
  have HSE := HSD.setLd hG2 (Stq_chg hc2)
  have hoE : Blk w2 ob #[.int .i64 5, .int .i64 wh, .int .i64 a, .string ⟨n.toArray⟩, .int .i64 d, .int .i64 u] 48 := (Stq_chg hc2).blk hoD (Blk.ne_t hoD HSD.ld (by decide))
  have HC2 : (fun wq => wq.cell? ⟨i.pb, 4, none⟩ = some (.pointer (some ⟨i.lb, 0, none⟩)) ∧ Blk wq ob #[.int .i64 5, .int .i64 wh, .int .i64 a, .string ⟨n.toArray⟩, .int .i64 d, .int .i64 u] 48) w2 := ⟨HSE.box.cell 4, hoE⟩
  refine lyp F7 rfl HC2 rfl (by omega) (wanted_none rfl) (v := Value.int .i64 cd) (fun wr hwr => by simp only [execOp, (F7.eval 100 (by omega)).trans (show _ = Value.int .i64 cd from by simp [upd, ee0, ee3])]; first | rfl | simp [go_sem]) fun F8 => ?_
  refine ⟨fun _ => HC2, ?_⟩
  first | refine hK _ _ ?_ | skip
  clear F0 F1 F2 F3 F4 F5 F6 F7 F8 ee0 ee3 HCC HC2 HSD hoD hG2 hc2
  simp only [Act.put, List.setIfInBounds_toArray, List.set_cons_succ, List.set_cons_zero]
  have HS2 : Hid (PS L0 i x.gv x.vv w x.ver x.L x.A x.gv s1 x.s x.VL x.VA x.vv w2) := HSE
  have HB2 : Hid (Blk w2 ob #[.int .i64 5, .int .i64 wh, .int .i64 a, .string ⟨n.toArray⟩, .int .i64 d, .int .i64 u] 48) := hoE
  clear HSE hoE HIN HS0 HBO x0
  go_wp2_with fail
  rename_i K hK
  try rw [show ∀ a : Act, a.put none undef = a from fun _ => rfl]
  refine wp_region_mix (fun wq => wq.cell? ⟨i.pb, 7, none⟩ = some (.pointer (some ⟨i.kb, 0, none⟩)) ∧ Blk wq ob #[.int .i64 5, .int .i64 wh, .int .i64 a, .string ⟨n.toArray⟩, .int .i64 d, .int .i64 u] 48) (fun i => i == 7 || i == 99) 99 (by kernel_rfl) rfl (by kernel_rfl) (by kernel_rfl) (by kernel_rfl) ?_
  refine withFrP (N := 133) rfl ?_
  intro f0 F0 hff
  have ee0 : f0 0 = Value.pointer (some ⟨i.pb, 0, none⟩) := hff 0
  have ee3 : f0 3 = Value.pointer (some ⟨ob, 0, none⟩) := hff 3
  have ee6 : f0 6 = Value.int .i64 cd := hff 6
  clear hff
  have HCC : (fun wq => wq.cell? ⟨i.pb, 7, none⟩ = some (.pointer (some ⟨i.kb, 0, none⟩)) ∧ Blk wq ob #[.int .i64 5, .int .i64 wh, .int .i64 a, .string ⟨n.toArray⟩, .int .i64 d, .int .i64 u] 48) (({ w2 with drawn := w2.drawn + 1 } : World)) := ⟨HS2.out.box.cell 7, HB2.out⟩
  have HSD := HS2.out.more (show Below w2.heap.size w2 (({ w2 with drawn := w2.drawn + 1 } : World)) from Below.drew (Below.refl _ _))
  have hoD : Blk (({ w2 with drawn := w2.drawn + 1 } : World)) ob #[.int .i64 5, .int .i64 wh, .int .i64 a, .string ⟨n.toArray⟩, .int .i64 d, .int .i64 u] 48 := HB2.out
  refine lyp F0 rfl HCC rfl (by omega) (wanted_none rfl) (v := Value.int .i64 cd) (fun wr hwr => by simp only [execOp, (F0.eval 6 (by omega)).trans (show _ = Value.int .i64 cd from by simp [upd, ee0, ee3, ee6])]; first | rfl | simp [go_sem]) fun F1 => ?_
  refine lyp F1 rfl HCC rfl (by omega) (wanted_none rfl) (v := Value.pointer (some ⟨i.pb, 0, none⟩)) (fun wr hwr => by simp only [execOp, (F1.eval 0 (by omega)).trans (show _ = Value.pointer (some ⟨i.pb, 0, none⟩) from by simp [upd, ee0, ee3, ee6])]; first | rfl | simp [go_sem]) fun F2 => ?_
  refine lyp F2 rfl HCC rfl (by omega) (wanted_none rfl) (v := Value.pointer (some ⟨i.pb, 0, none⟩)) (fun wr hwr => by simp only [execOp, (F2.eval 102 (by omega)).trans (show _ = Value.pointer (some ⟨i.pb, 0, none⟩) from by simp [upd, ee0, ee3, ee6])]; simp [go_sem]) fun F3 => ?_
  refine lyp F3 rfl HCC rfl (by omega) (wanted_none rfl) (v := Value.pointer (some ⟨i.pb, 7, none⟩)) (fun wr hwr => by simp only [execOp, (F3.eval 103 (by omega)).trans (show _ = Value.pointer (some ⟨i.pb, 0, none⟩) from by simp [upd, ee0, ee3, ee6])]; simp [go_sem]) fun F4 => ?_
  refine lyp F4 rfl HCC rfl (by omega) (wanted_none rfl) (v := Value.pointer (some ⟨i.kb, 0, none⟩)) (fun wr hwr => by simp only [execOp, (F4.eval 104 (by omega)).trans (show _ = Value.pointer (some ⟨i.pb, 7, none⟩) from by simp [upd, ee0, ee3, ee6])]; simp [go_sem, hwr.1]) fun F5 => ?_
  refine lyp F5 rfl HCC rfl (by omega) (wanted_none rfl) (v := Value.pointer (some ⟨ob, 4, none⟩)) (fun wr hwr => by simp only [execOp, (F5.eval 3 (by omega)).trans (show _ = Value.pointer (some ⟨ob, 0, none⟩) from by simp [upd, ee0, ee3, ee6])]; simp [go_sem]) fun F6 => ?_
  refine lyp F6 rfl HCC rfl (by omega) (wanted_none rfl) (v := Value.agg #[.int .i64 d, .int .i64 u]) (fun wr hwr => by simp only [execOp, (F6.eval 106 (by omega)).trans (show _ = Value.pointer (some ⟨ob, 4, none⟩) from by simp [upd, ee0, ee3, ee6])]; simp [go_sem, show wr.cell? ⟨ob, 4, none⟩ = some (.int .i64 d) from hwr.2.cell 4, show wr.cell? ⟨ob, 5, none⟩ = some (.int .i64 u) from hwr.2.cell 5]) fun F7 => ?_
  refine lcp F7 rfl HCC rfl (by omega) (wanted_none rfl) (g := 35) (args := #[Value.pointer (some ⟨i.kb, 0, none⟩), Value.agg #[.int .i64 d, .int .i64 u]]) (by simp only [execOp, resolve, invoke, List.map_toArray, List.map_cons, List.map_nil, (F7.eval 105 (by omega)).trans (show _ = Value.pointer (some ⟨i.kb, 0, none⟩) from by simp [upd, ee0, ee3, ee6]), (F7.eval 107 (by omega)).trans (show _ = Value.agg #[.int .i64 d, .int .i64 u] from by simp [upd, ee0, ee3, ee6])]; simp [go_sem, Act.eval]) (HRI.out (({ w2 with drawn := w2.drawn + 1 } : World)) HSD.rl) ?_
  rintro e9 w4 ⟨rfl, hG4, hc4⟩
  refine ⟨_, rfl, fun F8 => ?_⟩
  -- TAG:w4
  have HSE := HSD.setRl hG4 (Stq_chg hc4)
  have hoE : Blk w4 ob #[.int .i64 5, .int .i64 wh, .int .i64 a, .string ⟨n.toArray⟩, .int .i64 d, .int .i64 u] 48 := (Stq_chg hc4).blk hoD (Blk.ne_t hoD HSD.rl (by decide))
  have HC2 : (fun wq => wq.cell? ⟨i.pb, 7, none⟩ = some (.pointer (some ⟨i.kb, 0, none⟩)) ∧ Blk wq ob #[.int .i64 5, .int .i64 wh, .int .i64 a, .string ⟨n.toArray⟩, .int .i64 d, .int .i64 u] 48) w4 := ⟨HSE.box.cell 7, hoE⟩
  refine lyp F8 rfl HC2 rfl (by omega) (wanted_none rfl) (v := Value.bool true) (fun wr hwr => by simp only [execOp, (F8.eval 101 (by omega)).trans (show _ = Value.int .i64 cd from by simp [upd, ee0, ee3, ee6]), (F8.eval 108 (by omega)).trans (show _ = Value.int .i64 cd from by simp [upd, ee0, ee3, ee6])]; simp [go_sem, Act.eval]) fun F9 => ?_
  refine lyp F9 rfl HC2 rfl (by omega) (wanted_none rfl) (v := Value.bool true) (fun wr hwr => by simp only [execOp, (F9.eval 109 (by omega)).trans (show _ = Value.bool true from by simp [upd, ee0, ee3, ee6])]; first | rfl | simp [go_sem]) fun F10 => ?_
  refine ⟨fun _ => HC2, ?_⟩
  first | refine hK _ _ ?_ | skip
  clear F0 F1 F2 F3 F4 F5 F6 F7 F8 F9 F10 ee0 ee3 ee6 HCC HC2 HSD hoD hG4 hc4
  simp only [Act.put, List.setIfInBounds_toArray, List.set_cons_succ, List.set_cons_zero]
  have HS9 : Hid (PS L0 i x.gv x.vv w x.ver x.L x.A x.gv s1 s1 x.VL x.VA x.vv w4) := HSE
  clear HSE hoE HRI HS2 HB2
  go_wp2_with fail
  go_ret
  exact ⟨rfl, HFIN.out _ HS9.out, HS9.out.new⟩
set_option maxRecDepth 100000 in
set_option maxHeartbeats 6400000 in
theorem played_7 {L0 M : Nat} {i : PIx} {x : PVl} (kd wh a : Int) (n : List UInt8) (d u : Int) (w : World) (h : PI L0 M i x w) (hM : M ≤ 300) (hc : newCode i.me i.N = 0) (ha : -9223372036854775808 ≤ a ∧ a ≤ 9223372036854775807) (hn : n.length ≤ 140737488355328) (hd : -9223372036854775808 ≤ d ∧ d ≤ 9223372036854775807) (hu : -9223372036854775808 ≤ u ∧ u ≤ 9223372036854775807) (hr : wx a i.N ≠ i.me) (hk : kd = 7) :
    Calls Tryz.prog 13 #[.pointer (some ⟨i.pb, 0, none⟩), .agg #[.int .i64 kd, .int .i64 wh, .int .i64 a, .string ⟨n.toArray⟩, .int .i64 d, .int .i64 u]] w fun e w' => e = .returned (.bool true) ∧ ∃ vv', PI L0 (M + 1) i ⟨x.ver + 1, x.L, x.A, x.gv, x.s, (takeNext i.me i.N (wx a i.N) x.VL [⟨0, n, 1099511627776, 0, (x.ver + 1 : Nat), d, u, 0⟩]).1, (rtakeNext i.me i.N (wx a i.N) x.VA [⟨0, n, 1099511627776, 0, (x.ver + 1 : Nat), d, u, 0⟩]).1, vv'⟩ w' ∧ PNew i x.gv x.vv x.gv vv' w w' := by
  obtain ⟨ob, hob⟩ : ∃ ob, ob = w.heap.size := ⟨_, rfl⟩
  obtain ⟨X, hX⟩ : ∃ X, X = w.alloc (.cells #[.int .i64 kd, .int .i64 wh, .int .i64 a, .string ⟨n.toArray⟩, .int .i64 d, .int .i64 u] 48) := ⟨_, rfl⟩
  have hbX : Below w.heap.size w X := by rw [hX]; exact (Below.refl _ _).alloc (Nat.le_refl _) _
  have HBX : Hid (Below w.heap.size w X) := hbX
  have HBO : Hid (Blk X ob #[.int .i64 kd, .int .i64 wh, .int .i64 a, .string ⟨n.toArray⟩, .int .i64 d, .int .i64 u] 48) := show Blk X ob #[.int .i64 kd, .int .i64 wh, .int .i64 a, .string ⟨n.toArray⟩, .int .i64 d, .int .i64 u] 48 from by rw [hX, hob]; exact heap_alloc_new w _
  have HS0 : Hid (PS L0 i x.gv x.vv w x.ver x.L x.A x.gv x.s x.s x.VL x.VA x.vv X) := h.ps.more hbX
  have x0 : X.cell? ⟨ob, 0, none⟩ = some (.int .i64 kd) := HBO.out.cell 0
  have HTE : Hid _ := tells_take kd wh a n d u X (h.more hbX) hM hc ha hn hd hu hr
  have hL38 := run_loadVar_row (P := Tryz.prog) X ob 48 48 #[.int .i64 kd, .int .i64 wh, .int .i64 a, .string ⟨n.toArray⟩, .int .i64 d, .int .i64 u] (0, 0) _ HBO.out Tryz.underlying48 rfl (by kernel_rfl)
  subst hk
  clear h hbX hM hc ha hn hd hu hr
  go_enter Tryz.func13, Tryz.ntmps13
  go_upto_region 1 with fail
  rw [← hX, ← hob]
  clear hX hob
  have x1 : X.cell? ⟨ob, 1, none⟩ = some (.int .i64 wh) := HBO.out.cell 1
  have x2 : X.cell? ⟨ob, 2, none⟩ = some (.int .i64 a) := HBO.out.cell 2
  have x3 : X.cell? ⟨ob, 3, none⟩ = some (.string ⟨n.toArray⟩) := HBO.out.cell 3
  have x4 : X.cell? ⟨ob, 4, none⟩ = some (.int .i64 d) := HBO.out.cell 4
  have x5 : X.cell? ⟨ob, 5, none⟩ = some (.int .i64 u) := HBO.out.cell 5
  clear hL38
  go_wp2_with fail
  refine Calls.mono HTE.out ?_
  rintro e9 w2 ⟨rfl, vv', hP, hN⟩
  have HP : Hid (_ ∧ _) := And.intro hP (hN.from HBX.out)
  clear hP hN HTE x0 x1 x2 x3 x4 x5
  go_wp2_with fail
  go_ret
  exact ⟨rfl, vv', HP.out.1, HP.out.2⟩
end Go.Proofs.YtnphkmdanicemaaGreatDoor
